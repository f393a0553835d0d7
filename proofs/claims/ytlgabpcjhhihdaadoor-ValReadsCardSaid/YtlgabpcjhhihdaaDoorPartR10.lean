/-
  Texts of a proof over the translated program: proved evaluators and walks, part 10 of 13.
-/
import Derived.Test.YtlgabpcjhhihdaaDoorPartR9
import Derived.Below
import Derived.Deep.Cut
import Derived.Deep.RegionHeld3
import Derived.Deep.RegionWith
import Derived.Handy
import Derived.IntWalk
import Derived.Laws.AppendOwn
import Derived.Laws.Cells
import Derived.Laws.Concat
import Derived.Laws.CopyRow
import Derived.Laws.Externs
import Derived.Laws.IdiomStrings
import Derived.Laws.Strings
import Derived.Laws.Strings2
import Derived.Laws.Strings3
import Derived.Laws.StructEq
import Derived.Lib.AppendIntMem
import Derived.Lib.Builder
import Derived.Lib.Hide
import Derived.Lib.ItoaLen
import Derived.LoopTactic
import Derived.Outline
import Derived.OwnWalk
import Derived.ProofKit
import Derived.Scope
import Derived.ScopeJumps
import Derived.Shelf.LaysC
import Derived.Shelf.LaysM
import Derived.Shelf.Small.Strs
import Derived.Shelf.Small.Wraps
import Derived.Shelf.Strconv.Clone
import Derived.Shelf.Strconv.ErrVarParseInt
import Derived.Shelf.Strconv.Itoa0
import Derived.Shelf.Strconv.Itoa1
import Derived.Shelf.Strconv.Itoa2
import Derived.Shelf.Strconv.Itoa3
import Derived.Shelf.Strconv.Itoa4
import Derived.Shelf.Strconv.Lower
import Derived.Shelf.Strconv.ParseInt10
import Derived.Shelf.Strconv.ParseInt10All
import Derived.Shelf.Strconv.ParseInt10At16
import Derived.Shelf.Strconv.ParseInt10At32
import Derived.Shelf.Strconv.ParseInt10At64
import Derived.Shelf.Strconv.ParseInt10At8
import Derived.Shelf.Strconv.ParseIntEmpty
import Derived.Shelf.Strconv.ParseIntPublic10
import Derived.Shelf.Strconv.ParseUint10
import Derived.Shelf.Strconv.ParseUint10Any
import Derived.Shelf.Strconv.ParseUint10At
import Derived.Shelf.Strconv.ParseUint10Empty
import Derived.Shelf.Strconv.ParseUint10b16
import Derived.Shelf.Strconv.ParseUint10b32
import Derived.Shelf.Strconv.ParseUint10b64
import Derived.Shelf.Strconv.ParseUint10b8
import Derived.Shelf.Strconv.ParseUintEmpty
import Derived.Shelf.Strconv.RangeError
import Derived.Shelf.Strconv.SyntaxError
import Derived.Shelf.Strconv.ToError
import Derived.Shelf.Strconv.ToErrorRange
import Derived.Shelf.Strings.Builder1
import Derived.Shelf.Strings.BuilderF
import Derived.Shelf.Strings.BuilderK
import Derived.Shelf.Strings.Prefix
import Derived.Shelf.Strings.Search1
import Derived.Test.YtlgabpcjhhihdaaDoorProg
import Derived.WalkKit
import Derived.WalkMore
import Derived.WalkSpells
set_option linter.unusedVariables false
set_option linter.unusedSimpArgs false
set_option linter.unusedSectionVars false
set_option linter.unnecessarySimpa false
section
namespace Go.Proofs.YtlgabpcjhhihdaaDoor
open Go.RowKit Go.NW
set_option maxRecDepth 100000
def OB (w : World) (B : Nat) (v : Value) (l : List UInt8) : Prop := w.ownsRow B 5 1 v l.length (Lib.byteCells l)
theorem OB.str {w : World} {B : Nat} {v : Value} {l : List UInt8} (h : OB w B v l) : (∃ A c, v = .slice A l.length c) ∧ (convert 44 9 v).run Tryd.prog w = .ok (.string (bs l)) w := by
  have h0 : w.ownsRow B 5 1 v l.length (Lib.byteCells l) := h
  rcases h0.2 with ⟨rfl, hz⟩ | ⟨g, cap, cur, rfl, hb, hg, h1, h2, h3, h4⟩
  · obtain rfl := List.eq_nil_of_length_eq_zero hz
    refine ⟨⟨none, 0, rfl⟩, ?_⟩
    rw [run_convert_bytes_string w 44 9 5 none 0 0 Tryd.underlying44 Tryd.underlying5 Tryd.underlying9]
    rfl
  · refine ⟨⟨_, cap, rfl⟩, ?_⟩
    refine run_convert_bytes_back w 44 9 5 _ cap l Tryd.underlying44 Tryd.underlying5 Tryd.underlying9 fun j hj => ?_
    rw [Addr.add_lit, Nat.zero_add, h0.cellAt j (by omega)]
    simp [Lib.byteCells, List.getElem?_map, List.getElem?_eq_getElem hj]
theorem OB.push {w : World} {B : Nat} {v : Value} {X : List UInt8} {c : UInt8} (h : w.ownsRow B 5 1 v (X.length + 1) (Lib.byteCells X ++ [.int .u8 (c.toNat : Int)])) : OB w B v (X ++ [c]) := by
  unfold OB
  rw [← bc_snoc, List.length_append]
  exact h
set_option maxHeartbeats 4000000 in
theorem Tryd.rvalB (t : List UInt8) (hl : t.length < 2 ^ 39) (w : World) : Calls Tryd.prog 8 #[.string (bs (34 :: t))] w fun e w' => e = .returned (.tuple #[(pbytes t).1, .int .i64 (pbytes t).2]) ∧ Below w.heap.size w w' := by
  have hsc := storeC
  have hB' := bs_list
  have hG := bs_get
  have HB0 := Lib.hid ((Below.refl _ w).alloc (Nat.le_refl _) (.cells #[.int .i64 0, .int .i64 0, .string ⟨#[]⟩, .complex .f64 0 0] 29))
  have hcell0 := heap_alloc_new w (.cells #[.int .i64 0, .int .i64 0, .string ⟨#[]⟩, .complex .f64 0 0] 29)
  obtain ⟨n, hn⟩ : ∃ n, n = t.length := ⟨_, rfl⟩
  obtain ⟨L, hL⟩ : ∃ L, L = (34 : UInt8) :: t := ⟨_, rfl⟩
  have hLl : L.length = n + 1 := by rw [hL, hn]; rfl
  obtain ⟨m, hm⟩ : ∃ m, m = n + 1 := ⟨_, rfl⟩
  have hS1 : (bs L).size = m := by rw [bs_size, hLl, hm]
  have hL0 : ∀ h, L[0]'h = 34 := fun h => by subst hL; rfl
  have hL1 : (L == [45]) = false := by rw [hL]; simp
  have hL2 : (L == []) = false := by rw [hL]; rfl
  have hL3 : L.isEmpty = false := by rw [hL]; rfl
  have hm0 : 0 < m := by omega
  have HN := Lib.hid hn
  have HM := Lib.hid hm
  rw [← hn] at hl
  have hP : pbytes t = (if n % 2 = 0 then match unhex t with
    | none => (v0, 2)
    | some X => if X.length > 255 then (v0, 4) else (vS (bs X), 0)
  else (v0, 2) : Value × Int) := by rw [hn]; rfl
  have hmod : (m : Int).tmod 2 = ((m % 2 : Nat) : Int) := by rw [Int.tmod_eq_emod_of_nonneg (by omega)]; rfl
  have hLg : ∀ k y, t[k]? = some y → L[k + 1]? = some y := fun k y h => by rw [hL]; simpa using h
  have HLG := Lib.hid hLg
  rw [← hL]
  clear hL hLl hLg
  by_cases hodd : n % 2 = 0
  · rw [if_pos hodd] at hP
    have t0 : ((m : Int) % 2) = 1 := by omega
    have HP := Lib.hid hP
    have HO := Lib.hid hodd
    generalize pbytes t = R at HP ⊢
    clear hP hodd hn hm
    go_enter Tryd.func8, Tryd.ntmps8
    go_wp2_with fail
    clear hmod t0 hL0 hL1 hL2 hL3
    obtain ⟨ii, hi0, hz0, hz1, hz2⟩ := info_parts Tryd.Builder_Extra_169.infoByte
    obtain ⟨wa, hwa⟩ : ∃ wa, wa = w.alloc (.cells #[.int .i64 0, .int .i64 0, .string ⟨#[]⟩, .complex .f64 0 0] 29) := ⟨_, rfl⟩
    rw [← hwa] at HB0 hcell0 ⊢
    have hsz : wa.heap.size = w.heap.size + 1 := by rw [hwa]; simp
    have HSZ := Lib.hid hsz
    have HC0 := Lib.hid hcell0
    clear hwa hcell0 hsz
    go_loopw [4, 5] (fun t4 t5 W => ∃ (k : Nat) (X : List UInt8) (v : Value), 2 * k ≤ n ∧ v = t4 ∧ t5 = .int .i64 ((1 + 2 * k : Nat) : Int) ∧ Hid (unhex (t.take (2 * k)) = some X) ∧ Hid (OB W (w.heap.size + 1) v X) ∧ Hid (Below (w.heap.size + 1) wa W)) (fun _ t5 _ => m - (intO t5).toNat)
    case atStart => exact ⟨0, [], _, Nat.zero_le _, rfl, rfl, Lib.hid (by simp [unhex]), Lib.hid ⟨by simp [Lib.byteCells], .inl ⟨rfl, rfl⟩⟩, Lib.hid (Below.refl _ _)⟩
    case round =>
      rename World => W
      obtain ⟨k, X, v, hk, rfl, rfl, HX, HOB, HB⟩ := hrel
      obtain ⟨i, hi⟩ : ∃ i, i = 1 + 2 * k := ⟨_, rfl⟩
      have hcell : W.heap[w.heap.size]? = some (.cells #[.int .i64 0, .int .i64 0, .string ⟨#[]⟩, .complex .f64 0 0] 29 (0, 0)) := (HB.out.block _ (Nat.lt_succ_self _)).trans HC0.out
      have HBW : Hid (Below w.heap.size w W) := Lib.hid (HB0.out.trans (HB.out.mono (Nat.le_succ _)))
      have HBL : Hid (w.heap.size + 1 ≤ W.heap.size) := Lib.hid (by have := HB.out.size; have := HSZ.out; omega)
      have HXL := Lib.hid (unhex_len _ _ HX.out)
      rw [← hi]
      have HI2 := Lib.hid hi
      by_cases hlt : i < m
      · have hk1 : 2 * k < n := by have := HM.out; omega
        have hk2 : 2 * k + 1 < n := by have := HO.out; omega
        have t1 : decide ((i : Int) < m) = true := decide_eq_true (by omega)
        have t2 : decide (i < m) = true := decide_eq_true hlt
        obtain ⟨y1, HY1⟩ : ∃ y, Hid (t[2 * k]? = some y) := ⟨_, Lib.hid (List.getElem?_eq_getElem (by rw [← HN.out]; exact hk1))⟩
        obtain ⟨y2, HY2⟩ : ∃ y, Hid (t[2 * k + 1]? = some y) := ⟨_, Lib.hid (List.getElem?_eq_getElem (by rw [← HN.out]; exact hk2))⟩
        have hy1 : ∀ h, L[i]'h = y1 := fun h => by
          have := HLG.out _ _ HY1.out
          rw [show 2 * k + 1 = i from by omega] at this
          exact (List.getElem?_eq_some_iff.1 this).2
        have hy2 : ∀ h, L[i + 1]'h = y2 := fun h => by
          have := HLG.out _ _ HY2.out
          rw [show 2 * k + 1 + 1 = i + 1 from by omega] at this
          exact (List.getElem?_eq_some_iff.1 this).2
        have z0 : (i : Int) < m := by omega
        have z1 : (i : Int) + 1 < m := by have := HM.out; omega
        have z2 : i + 1 < m := by omega
        have hw1 : IntKind.i64.wrap ((i : Int) + 1) = (i : Int) + 1 := by rw [IntKind.wrap_i64]; omega
        have hw2 : ((i : Int) + 1).toNat = i + 1 := by omega
        have hw3 : (0 : Int) ≤ (i : Int) + 1 := by omega
        have hw7 : IntKind.i64.wrap ((i : Int) + 2) = ((1 + 2 * (k + 1) : Nat) : Int) := by rw [IntKind.wrap_i64]; omega
        clear hi hlt
        go_wp2_with fail
        refine (Tryd.rhex y1 _).mono ?_
        rintro e w1 ⟨rfl, rfl⟩
        obtain ⟨p, hp⟩ : ∃ p, hv y1 = p := ⟨_, rfl⟩
        obtain ⟨q, hq⟩ : ∃ q, hv y2 = q := ⟨_, rfl⟩
        rw [hp]
        have hp2 := hv_range y1
        have hq2 := hv_range y2
        rw [hp] at hp2
        rw [hq] at hq2
        have HPQ := Lib.hid (And.intro hp hq)
        clear hp hq
        go_wp2_with fail
        refine (Tryd.rhex y2 _).mono ?_
        rintro e w1 ⟨rfl, rfl⟩
        rw [HPQ.out.2]
        by_cases hp0 : p < 0
        · have d1 : decide (p < 0) = true := decide_eq_true hp0
          have hR := HP.out
          rw [unhex_bad t k y1 y2 HY1.out HY2.out (.inl (by rw [HPQ.out.1]; exact hp0))] at hR
          subst hR
          clear HP
          go_wp2_with (refine nw_store_row _ rfl 29 (.tmp 2) (.tmp 47) rfl w.heap.size 29 (cells4 0 0 ⟨#[]⟩ 0 0) zero4 rfl rfl hcell rfl (Tryd.size29 _ rfl) (one4 _ _ _ _ _) ?_)
          refine bodyPost_ret (v := .tuple #[v0, .int .i64 2]) (nw_results (show Tryd.f8.results = #[.cell 2 29, .tmp 3] from rfl) _ _ w.heap.size 29 (cells4 0 0 ⟨#[]⟩ 0 0) _ rfl (setRow_heap' _ _ _ _ _ hcell) (Tryd.size29 _ rfl) Tryd.st29) rfl ⟨rfl, below_setRow HBW.out (Nat.le_refl _) _⟩
        · have d1 : decide (p < 0) = false := decide_eq_false hp0
          by_cases hq0 : q < 0
          · have d2 : decide (q < 0) = true := decide_eq_true hq0
            have hR := HP.out
            rw [unhex_bad t k y1 y2 HY1.out HY2.out (.inr (by rw [HPQ.out.2]; exact hq0))] at hR
            subst hR
            clear HP
            go_wp2_with (refine nw_store_row _ rfl 29 (.tmp 2) (.tmp 47) rfl w.heap.size 29 (cells4 0 0 ⟨#[]⟩ 0 0) zero4 rfl rfl hcell rfl (Tryd.size29 _ rfl) (one4 _ _ _ _ _) ?_)
            refine bodyPost_ret (v := .tuple #[v0, .int .i64 2]) (nw_results (show Tryd.f8.results = #[.cell 2 29, .tmp 3] from rfl) _ _ w.heap.size 29 (cells4 0 0 ⟨#[]⟩ 0 0) _ rfl (setRow_heap' _ _ _ _ _ hcell) (Tryd.size29 _ rfl) Tryd.st29) rfl ⟨rfl, below_setRow HBW.out (Nat.le_refl _) _⟩
          · have d2 : decide (q < 0) = false := decide_eq_false hq0
            obtain ⟨P, hP16, rfl⟩ : ∃ P : Nat, P < 16 ∧ p = P := by
              rcases hp2 with h | ⟨P, h1, h2⟩
              · omega
              · exact ⟨P, h1, h2⟩
            obtain ⟨Q, hQ16, rfl⟩ : ∃ P : Nat, P < 16 ∧ q = P := by
              rcases hq2 with h | ⟨P, h1, h2⟩
              · omega
              · exact ⟨P, h1, h2⟩
            have HMORE := Lib.hid (unhex_more t k y1 y2 X HY1.out HY2.out (by rw [HPQ.out.1, HPQ.out.2]; omega) HX.out)
            obtain ⟨s, hs⟩ : ∃ s : Nat, s = 16 * P := ⟨_, rfl⟩
            obtain ⟨z, hz⟩ : ∃ z : Nat, z = s + Q := ⟨_, rfl⟩
            have HZ : Hid ((byteOf y1 y2).toNat = z) := Lib.hid (by
              unfold byteOf
              rw [HPQ.out.1, HPQ.out.2, UInt8.toNat_ofNat', hz, hs]
              show (P * 16 + Q) % 256 = _
              omega)
            have hw4 : IntKind.i64.wrap (16 * (P : Int)) = (s : Int) := by rw [IntKind.wrap_i64]; omega
            have hw5 : IntKind.i64.wrap ((s : Int) + (Q : Int)) = (z : Int) := by rw [IntKind.wrap_i64]; omega
            have hw6 : IntKind.u8.wrap (z : Int) = (z : Int) := by rw [IntKind.wrap_u8]; omega
            have OA := Lib.hid ((show W.ownsRow (w.heap.size + 1) 5 1 v X.length (Lib.byteCells X) from HOB.out).alloc (.cells #[.int .u8 (z : Int)] 5))
            have BA := Lib.hid (HB.out.alloc HBL.out (.cells #[.int .u8 (z : Int)] 5))
            have HXN : Hid (X.length < 2 ^ 39) := Lib.hid (by have := HXL.out; rw [List.length_take] at this; omega)
            clear hp2 hq2 hs hz hp0 hq0 hP16 hQ16
            go_wp2_with (at_builtin; refine wpList_append_own _ rfl (.tmp 48) (.tmp 54) 44 rfl (w.heap.size + 1) 5 ii (.int .u8 0) 1 1 Tryd.underlying44 hi0 hz0 hz1 hz2 rfl (by decide) _ _ _ rfl (OA.out) ⟨W.heap.size, 0, none⟩ 1 1 [.int .u8 (z : Int)] rfl rfl ?c1 ?c2 ?c3 ?c4 ?c5 ?c6)
            case c1 =>
              intro j u hj
              match j, hj with
              | 0, hj => simp at hj; subst hj; simp [Addr.add]
            case c2 => intro u hu; simp at hu; subst hu; rfl
            case c3 => have := HXN.out; unfold maxLen; omega
            case c4 => have := HXN.out; omega
            case c5 => have := HBL.out; simp; omega
            case c6 =>
              intro v' w2 hown' hgrow _
              have HB2 : Hid (Below (w.heap.size + 1) wa w2) := Lib.hid (BA.out.grown hgrow (by have := HBL.out; simp; omega) (fun k hk => (OA.out.lt k hk).1))
              have HO2 : Hid (OB w2 (w.heap.size + 1) v' (X ++ [byteOf y1 y2])) := Lib.hid (OB.push (by rw [HZ.out]; exact hown'))
              clear hown' hgrow
              go_wp2_with fail
              exact ⟨⟨k + 1, X ++ [byteOf y1 y2], _, by omega, rfl, by first | rfl | trivial, HMORE, HO2, HB2⟩, by have := HI2.out; simp [intO]; omega⟩
      · have hkn : 2 * k = n := by have := HM.out; have := HO.out; omega
        have t1 : decide ((i : Int) < m) = false := decide_eq_false (by omega)
        have t2 : decide (i < m) = false := decide_eq_false (by omega)
        have hR := HP.out
        have hX := HX.out
        rw [show t.take (2 * k) = t by rw [hkn, HN.out, List.take_length]] at hX
        rw [hX] at hR
        dsimp only at hR
        obtain ⟨⟨A, c, rfl⟩, hstr⟩ := HOB.out.str
        have HR2 := Lib.hid hR
        obtain ⟨N, hN⟩ : ∃ N, X.length = N := ⟨_, rfl⟩
        rw [hN] at HR2 hstr ⊢
        have HSTR : Hid ((convert 44 9 (.slice A N c)).run Tryd.prog W = .ok (.string (bs X)) W) := Lib.hid hstr
        clear hR hX HP HX hi hN hkn hlt hstr
        by_cases hbig : N > 255
        · have d1 : decide ((N : Int) > 255) = true := decide_eq_true (by omega)
          have d2 : decide (255 < N) = true := decide_eq_true (by omega)
          have hR := HR2.out
          rw [if_pos hbig] at hR
          subst hR
          clear HR2
          go_wp2_with (refine nw_store_row _ rfl 29 (.tmp 2) (.tmp 59) rfl w.heap.size 29 (cells4 0 0 ⟨#[]⟩ 0 0) zero4 rfl rfl hcell rfl (Tryd.size29 _ rfl) (one4 _ _ _ _ _) ?_)
          refine bodyPost_ret (v := .tuple #[v0, .int .i64 4]) (nw_results (show Tryd.f8.results = #[.cell 2 29, .tmp 3] from rfl) _ _ w.heap.size 29 (cells4 0 0 ⟨#[]⟩ 0 0) _ rfl (setRow_heap' _ _ _ _ _ hcell) (Tryd.size29 _ rfl) Tryd.st29) rfl ⟨rfl, below_setRow HBW.out (Nat.le_refl _) _⟩
        · have d1 : decide ((N : Int) > 255) = false := decide_eq_false (by omega)
          have d2 : decide (255 < N) = false := decide_eq_false (by omega)
          have hR := HR2.out
          rw [if_neg hbig] at hR
          subst hR
          clear HR2
          have hstr := HSTR.out
          go_wp2_with (refine nw_store_row _ rfl 29 (.tmp 2) (.tmp 62) rfl w.heap.size 29 (cells4 2 0 (bs X) 0 0) zero4 rfl rfl hcell rfl (Tryd.size29 _ rfl) (one4 _ _ _ _ _) ?_)
          refine bodyPost_ret (v := .tuple #[vS (bs X), .int .i64 0]) (nw_results (show Tryd.f8.results = #[.cell 2 29, .tmp 3] from rfl) _ _ w.heap.size 29 (cells4 2 0 (bs X) 0 0) _ rfl (setRow_heap' _ _ _ _ _ hcell) (Tryd.size29 _ rfl) Tryd.st29) rfl ⟨rfl, below_setRow HBW.out (Nat.le_refl _) _⟩
  · rw [if_neg hodd] at hP
    have t0 : ((m : Int) % 2) = 0 := by omega
    rw [hP]
    clear hP hodd hn hm
    go_enter Tryd.func8, Tryd.ntmps8
    go_wp2_with (refine nw_store_row _ rfl 29 (.tmp 2) (.tmp 25) rfl w.heap.size 29 (cells4 0 0 ⟨#[]⟩ 0 0) zero4 rfl rfl hcell0 rfl (Tryd.size29 _ rfl) (one4 _ _ _ _ _) ?_)
    refine bodyPost_ret (v := .tuple #[v0, .int .i64 2]) (nw_results (show Tryd.f8.results = #[.cell 2 29, .tmp 3] from rfl) _ _ w.heap.size 29 (cells4 0 0 ⟨#[]⟩ 0 0) _ rfl (setRow_heap' _ _ _ _ _ hcell0) (Tryd.size29 _ rfl) Tryd.st29) rfl ⟨rfl, below_setRow HB0.out (Nat.le_refl _) _⟩
end Go.Proofs.YtlgabpcjhhihdaaDoor
end

section
namespace Go.Proofs.YtlgabpcjhhihdaaDoor
open Go.RowKit Go.NW
set_option maxRecDepth 100000
theorem Tryd.nanF (x : Nat) (h : ∀ w : World, (binOp .neq 57 (.float .f64 x) (.float .f64 x)).run Tryd.prog w = .ok (.bool false) w) (w : World) : Calls Tryd.prog 49 #[.float .f64 x] w fun e w' => e = .returned (.bool false) ∧ w = w' := by
  go_enter Tryd.func49, Tryd.ntmps49
  go_wp2
  go_ret
  exact ⟨rfl, rfl⟩
theorem Tryd.cmpF (x y : Nat) (hx : ∀ w : World, (binOp .neq 57 (.float .f64 x) (.float .f64 x)).run Tryd.prog w = .ok (.bool false) w) (hy : ∀ w : World, (binOp .neq 57 (.float .f64 y) (.float .f64 y)).run Tryd.prog w = .ok (.bool false) w)
    (l g : Bool) (hl : ∀ w : World, (binOp .lss 57 (.float .f64 x) (.float .f64 y)).run Tryd.prog w = .ok (.bool l) w) (hg : ∀ w : World, (binOp .gtr 57 (.float .f64 x) (.float .f64 y)).run Tryd.prog w = .ok (.bool g) w) (w : World) :
    Calls Tryd.prog 33 #[.float .f64 x, .float .f64 y] w fun e w' => e = .returned (.int .i64 (if l then -1 else if g then 1 else 0)) ∧ w = w' := by
  have n1 := Tryd.nanF x hx
  have n2 := Tryd.nanF y hy
  have N1 := Lib.hid n1
  have N2 := Lib.hid n2
  clear n1 n2 hx hy
  cases l
  · cases g
    · go_enter Tryd.func33, Tryd.ntmps33
      go_wp2_with fail
      refine (N1.out _).mono ?_
      rintro e w1 ⟨rfl, rfl⟩
      go_wp2_with fail
      refine (N2.out _).mono ?_
      rintro e w1 ⟨rfl, rfl⟩
      go_wp2_with fail
      go_ret
      exact ⟨rfl, rfl⟩
    · go_enter Tryd.func33, Tryd.ntmps33
      go_wp2_with fail
      refine (N1.out _).mono ?_
      rintro e w1 ⟨rfl, rfl⟩
      go_wp2_with fail
      refine (N2.out _).mono ?_
      rintro e w1 ⟨rfl, rfl⟩
      go_wp2_with fail
      go_ret
      exact ⟨rfl, rfl⟩
  · go_enter Tryd.func33, Tryd.ntmps33
    go_wp2_with fail
    refine (N1.out _).mono ?_
    rintro e w1 ⟨rfl, rfl⟩
    go_wp2_with fail
    refine (N2.out _).mono ?_
    rintro e w1 ⟨rfl, rfl⟩
    go_wp2_with fail
    go_ret
    exact ⟨rfl, rfl⟩
theorem Tryd.compareK (n : Int) (s : ByteArray) (w : World) : Calls Tryd.prog 13 #[vN n, vS s] w fun e w' => e = .returned (.int .i64 (-1)) ∧ Below w.heap.size w w' := by
  have hc := Tryd.cmp3 1 2
  rw [show sgn 1 2 = -1 by decide] at hc
  have HC := Lib.hid hc
  clear hc
  unfold vN vS
  go_enter Tryd.func13, Tryd.ntmps13
  go_wp2
  refine wp_scope_fwd 0 ?_
  go_wp2_with fail
  refine (HC.out _).mono ?_
  rintro e w1 ⟨rfl, rfl⟩
  go_wp2_with fail
  refine (Fwd.other (by intro l; simp)).2 ?_
  go_ret
  exact ⟨rfl, ((Below.refl _ w).alloc (Nat.le_refl _) _).alloc (by simp) _⟩
theorem Tryd.compareP1 (w : World) : Calls Tryd.prog 13 #[vC 4607182418800017408 4621256167635550208, vC 4611686018427387904 0] w fun e w' => e = .returned (.int .i64 (-1)) ∧ Below w.heap.size w w' := by
  have hc := Tryd.cmpF 4607182418800017408 4611686018427387904 (fun w => by kernel_rfl) (fun w => by kernel_rfl) true false (fun w => by kernel_rfl) (fun w => by kernel_rfl)
  have HC := Lib.hid hc
  have h3 := realC
  have h4 := imagC
  have hn : ∀ w : World, (binOp .neq 57 (.float .f64 4607182418800017408) (.float .f64 4611686018427387904)).run Tryd.prog w = .ok (.bool true) w := fun w => by kernel_rfl
  clear hc
  unfold vC
  go_enter Tryd.func13, Tryd.ntmps13
  go_wp2
  refine wp_scope_fwd 1 ?_
  go_wp2_with fail
  go_step3
  refine ⟨_, rfl, ?_⟩
  go_wp2_with fail
  refine (HC.out _).mono ?_
  rintro e w1 ⟨rfl, rfl⟩
  go_wp2_with fail
  refine (Fwd.other (by intro l; simp)).2 ?_
  go_ret
  exact ⟨rfl, ((Below.refl _ w).alloc (Nat.le_refl _) _).alloc (by simp) _⟩
theorem Tryd.compareP2 (w : World) : Calls Tryd.prog 13 #[vC 4607182418800017408 4621256167635550208, vC 4607182418800017408 4620693217682128896] w fun e w' => e = .returned (.int .i64 1) ∧ Below w.heap.size w w' := by
  have hc := Tryd.cmpF 4621256167635550208 4620693217682128896 (fun w => by kernel_rfl) (fun w => by kernel_rfl) false true (fun w => by kernel_rfl) (fun w => by kernel_rfl)
  have HC := Lib.hid hc
  have h3 := realC
  have h4 := imagC
  have hn : ∀ w : World, (binOp .neq 57 (.float .f64 4607182418800017408) (.float .f64 4607182418800017408)).run Tryd.prog w = .ok (.bool false) w := fun w => by kernel_rfl
  clear hc
  unfold vC
  go_enter Tryd.func13, Tryd.ntmps13
  go_wp2
  refine wp_scope_fwd 1 ?_
  go_wp2_with fail
  go_step3
  refine ⟨_, rfl, ?_⟩
  go_wp2_with fail
  refine (HC.out _).mono ?_
  rintro e w1 ⟨rfl, rfl⟩
  go_wp2_with fail
  refine (Fwd.other (by intro l; simp)).2 ?_
  go_ret
  exact ⟨rfl, ((Below.refl _ w).alloc (Nat.le_refl _) _).alloc (by simp) _⟩
theorem Tryd.fits0 (w : World) : Calls Tryd.prog 17 #[v0, .int .i64 1] w fun e w' => e = .returned (.bool true) ∧ Below w.heap.size w w' := by
  unfold v0
  go_enter Tryd.func17, Tryd.ntmps17
  go_wp2
  go_ret
  exact ⟨rfl, (Below.refl _ w).alloc (Nat.le_refl _) _⟩
theorem Tryd.fitsS (s : ByteArray) (w : World) : Calls Tryd.prog 17 #[vS s, .int .i64 1] w fun e w' => e = .returned (.bool false) ∧ Below w.heap.size w w' := by
  unfold vS
  go_enter Tryd.func17, Tryd.ntmps17
  go_wp2
  go_ret
  exact ⟨rfl, (Below.refl _ w).alloc (Nat.le_refl _) _⟩
theorem neqS (w : World) (k : Int) (b : Bool) (n : Int) (hb : (n == 0) = b) : (binOp .neq 25 (.agg #[.int .i64 k, .int .i64 n, .string ⟨#[]⟩, .complex .f64 0 0]) (.agg #[.int .i64 k, .int .i64 0, .string ⟨#[]⟩, .complex .f64 0 0])).run Tryd.prog w = .ok (.bool (!b)) w := by
  rw [neqV w k n k 0 _ _ 0 0 0 0 true (eqC0 w 9998), hb]
  simp
theorem Tryd.vcheckS (s : ByteArray) (hs : s.size < 2 ^ 60) (w : World) : Calls Tryd.prog 11 #[vS s] w fun e w' => e = .returned (.int .i64 (if s.size ≤ 255 then 0 else 4)) ∧ Below w.heap.size w w' := by
  have hsc := storeC
  have hN := neqS (k := 2) (b := true) (n := 0) (hb := rfl)
  have hG := eqG
  unfold vS
  by_cases h : s.size ≤ 255
  · have d1 : decide ((s.size : Int) > 255) = false := decide_eq_false (by omega)
    rw [if_pos h]
    go_enter Tryd.func11, Tryd.ntmps11
    go_wp2
    refine wp_scope_fwd 2 ?_
    go_wp2_with fail
    go_step3
    refine ⟨_, rfl, ?_⟩
    go_wp2_with fail
    go_step3
    go_wp2_with fail
    refine (Fwd.other (by intro l; simp)).2 ?_
    go_ret
    exact ⟨rfl, ((Below.refl _ w).alloc (Nat.le_refl _) _).alloc (by simp) _⟩
  · have d1 : decide ((s.size : Int) > 255) = true := decide_eq_true (by omega)
    rw [if_neg h]
    go_enter Tryd.func11, Tryd.ntmps11
    go_wp2
    refine wp_scope_fwd 2 ?_
    go_wp2_with fail
    go_step3
    refine ⟨_, rfl, ?_⟩
    go_wp2_with fail
    go_step3
    go_wp2_with fail
    refine (Fwd.other (by intro l; simp)).2 ?_
    go_ret
    exact ⟨rfl, ((Below.refl _ w).alloc (Nat.le_refl _) _).alloc (by simp) _⟩
theorem Tryd.vcheckX (w : World) : Calls Tryd.prog 11 #[.agg #[.int .i64 0, .int .i64 1, .string ⟨#[]⟩, .complex .f64 0 0]] w fun e w' => e = .returned (.int .i64 1) ∧ Below w.heap.size w w' := by
  have hsc := storeC
  have hN := neqS (k := 0) (b := false) (n := 1) (hb := rfl)
  have hG := eqG
  go_enter Tryd.func11, Tryd.ntmps11
  go_wp2
  refine wp_scope_fwd 1 ?_
  go_wp2_with fail
  go_step3
  refine ⟨_, rfl, ?_⟩
  go_wp2_with fail
  refine (Fwd.other (by intro l; simp)).2 ?_
  go_ret
  exact ⟨rfl, ((Below.refl _ w).alloc (Nat.le_refl _) _).alloc (by simp) _⟩
theorem Tryd.vcheckK (w : World) : Calls Tryd.prog 11 #[.agg #[.int .i64 4, .int .i64 0, .string ⟨#[]⟩, .complex .f64 0 0]] w fun e w' => e = .returned (.int .i64 6) ∧ Below w.heap.size w w' := by
  have hsc := storeC
  go_enter Tryd.func11, Tryd.ntmps11
  go_wp2
  refine wp_scope_fwd 0 ?_
  go_wp2_with fail
  refine (Fwd.other (by intro l; simp)).2 ?_
  go_ret
  exact ⟨rfl, ((Below.refl _ w).alloc (Nat.le_refl _) _).alloc (by simp) _⟩
end Go.Proofs.YtlgabpcjhhihdaaDoor
end

section
namespace Go.Proofs.YtlgabpcjhhihdaaDoor
open Go.RowKit Go.NW
set_option maxRecDepth 100000
def Sx (Z : World) (xb : Nat) (a : Int) : Prop := Z.cell? ⟨xb, 0, none⟩ = some (.int .i64 1) ∧ Z.cell? ⟨xb, 1, none⟩ = some (.int .i64 a) ∧ Z.cell? ⟨xb, 2, none⟩ = some (.string ⟨#[]⟩) ∧ Z.cell? ⟨xb, 3, none⟩ = some (.complex .f64 0 0)
theorem cellB {w w' : World} {p : Addr} {v : Value} (h : w.cell? p = some v) (hb : Below w.heap.size w w') : w'.cell? p = some v := (hb.cell (block_lt_of_cell h)).trans h
theorem Sx.below {Z Z' : World} {xb : Nat} {a : Int} (h : Sx Z xb a) (hb : Below Z.heap.size Z Z') : Sx Z' xb a := ⟨cellB h.1 hb, cellB h.2.1 hb, cellB h.2.2.1 hb, cellB h.2.2.2 hb⟩
theorem Sx.of {Z : World} {xb : Nat} {a : Int} (h : Z.heap[xb]? = some (.cells (cells4 1 a ⟨#[]⟩ 0 0) 25 (0, 0))) : Sx Z xb a := by
  refine ⟨?_, ?_, ?_, ?_⟩ <;> (rw [cell_of_row Z xb _ _ 25 _ h]; rfl)
end Go.Proofs.YtlgabpcjhhihdaaDoor
end

section
namespace Go.Proofs.YtlgabpcjhhihdaaDoor
open Go.RowKit Go.NW
set_option maxRecDepth 100000
def Bx (Z : World) (xb : Nat) (k n : Int) (s : ByteArray) (x y : Nat) : Prop := Z.cell? ⟨xb, 0, none⟩ = some (.int .i64 k) ∧ Z.cell? ⟨xb, 1, none⟩ = some (.int .i64 n) ∧ Z.cell? ⟨xb, 2, none⟩ = some (.string s) ∧ Z.cell? ⟨xb, 3, none⟩ = some (.complex .f64 x y)
theorem Bx.below {Z Z' : World} {xb : Nat} {k n : Int} {s : ByteArray} {x y : Nat} (h : Bx Z xb k n s x y) (hb : Below Z.heap.size Z Z') : Bx Z' xb k n s x y := ⟨cellB h.1 hb, cellB h.2.1 hb, cellB h.2.2.1 hb, cellB h.2.2.2 hb⟩
theorem Bx.of (Z : World) (k n : Int) (s : ByteArray) (x y : Nat) : Bx (Z.alloc (.cells #[.int .i64 k, .int .i64 n, .string s, .complex .f64 x y] 25)) Z.heap.size k n s x y := by
  refine ⟨?_, ?_, ?_, ?_⟩ <;> (rw [cell_of_row _ _ _ _ 25 _ (heap_alloc_new _ _)]; rfl)
def KS (Z : World) (x1 x3 x5 x7 : Nat) : Prop := Bx Z x1 2 0 ⟨#[97, 111]⟩ 0 0 ∧ Bx Z x3 1 (-7) ⟨#[]⟩ 0 0 ∧ Bx Z x5 3 0 ⟨#[]⟩ 13830554455654793216 4611686018427387904 ∧ Bx Z x7 0 0 ⟨#[]⟩ 0 0
theorem KS.below {Z Z' : World} {x1 x3 x5 x7 : Nat} (h : KS Z x1 x3 x5 x7) (hb : Below Z.heap.size Z Z') : KS Z' x1 x3 x5 x7 := ⟨h.1.below hb, h.2.1.below hb, h.2.2.1.below hb, h.2.2.2.below hb⟩
theorem Tryd.nnU (n : Int) (w : World) : Calls Tryd.prog 14 #[.int .i64 n] w fun e w' => e = .returned (.agg #[.int .i64 1, .int .i64 n, .string ⟨#[]⟩, .complex .f64 0 0]) ∧ Below w.heap.size w w' := Tryd.nn n w
theorem Tryd.ssU (s : ByteArray) (w : World) : Calls Tryd.prog 12 #[.string s] w fun e w' => e = .returned (.agg #[.int .i64 2, .int .i64 0, .string s, .complex .f64 0 0]) ∧ Below w.heap.size w w' := Tryd.ss s w
theorem cvtU (n : Int) (x : Nat) (h : ∀ w : World, (convert 3 57 (.int .i64 n)).run Tryd.prog w = .ok (.float .f64 x) w) (m : Int) (y : Nat) (h' : ∀ w : World, (convert 3 57 (.int .i64 m)).run Tryd.prog w = .ok (.float .f64 y) w) (w : World) :
    Calls Tryd.prog 16 #[.int .i64 n, .int .i64 m] w fun e w' => e = .returned (.agg #[.int .i64 3, .int .i64 0, .string ⟨#[]⟩, .complex .f64 x y]) ∧ Below w.heap.size w w' := cvt n x h m y h' w
theorem k1 : pbytes [54, 49, 54, 102] = (vS ⟨#[97, 111]⟩, 0) := by kernel_rfl
theorem k2 : pint [45, 55] = (vN (-7), 0) := by kernel_rfl
theorem k5 : pbytes [54] = (v0, 2) := by kernel_rfl
theorem k6 : pint [57, 50, 50, 51, 51, 55, 50, 48, 51, 54, 56, 53, 52, 55, 55, 53, 56, 48, 56] = (v0, 1) := by kernel_rfl
theorem k7 : pbytes [54, 65] = (v0, 2) := by kernel_rfl
theorem eqP (w : World) : (binOp .eql 25 (.agg #[.int .i64 3, .int .i64 0, .string ⟨#[]⟩, .complex .f64 13830554455654793216 4611686018427387904]) (.agg #[.int .i64 3, .int .i64 0, .string ⟨#[]⟩, .complex .f64 13830554455654793216 4611686018427387904])).run Tryd.prog w = .ok (.bool true) w := by
  rw [eqlV w 3 0 3 0 _ _ _ _ _ _ true (by kernel_rfl)]
  simp
theorem eqS (s : ByteArray) (w : World) : (binOp .eql 25 (.agg #[.int .i64 2, .int .i64 0, .string s, .complex .f64 0 0]) (.agg #[.int .i64 2, .int .i64 0, .string s, .complex .f64 0 0])).run Tryd.prog w = .ok (.bool true) w := by
  rw [eqlV w 2 0 2 0 _ _ 0 0 0 0 true (eqC0 w 9998)]
  simp
theorem eq0 (w : World) : (binOp .eql 25 (.agg #[.int .i64 0, .int .i64 0, .string ⟨#[]⟩, .complex .f64 0 0]) (.agg #[.int .i64 0, .int .i64 0, .string ⟨#[]⟩, .complex .f64 0 0])).run Tryd.prog w = .ok (.bool true) w := by
  rw [eqlV w 0 0 0 0 _ _ 0 0 0 0 true (eqC0 w 9998)]
  simp
set_option maxHeartbeats 4000000 in
theorem Tryd.knownC {B : Nat} {w : World} (hD : DoorI B w) (hB : B ≤ w.heap.size) : Calls Tryd.prog 6 #[] w fun e w' => e = .returned (.bool true) ∧ Below w.heap.size w w' := by
  have hsc := storeC
  have HD := Lib.hid hD
  clear hD
  go_enter Tryd.func6, Tryd.ntmps6
  go_wp2_with fail
  have U0 : Hid (Below w.heap.size w w) := Lib.hid (Below.refl _ _)
  refine (Tryd.parseB [54, 49, 54, 102] (by decide) _).mono ?_
  rintro e w1a ⟨rfl, hb⟩
  rw [k1]
  dsimp only [vS, vN, v0, vP, vC]
  have A1 := Lib.hid (U0.out.trans (hb.mono U0.out.size))
  clear hb
  go_wp2_with fail
  have hal := (Below.refl w1a.heap.size w1a).alloc (Nat.le_refl _) (.cells #[.int .i64 2, .int .i64 0, .string ⟨#[97, 111]⟩, .complex .f64 0 0] 25)
  have U1 := Lib.hid (A1.out.trans (hal.mono A1.out.size))
  have Q1_1 := Lib.hid (Bx.of w1a 2 0 ⟨#[97, 111]⟩ 0 0)
  clear hal
  generalize w1a.alloc (.cells #[.int .i64 2, .int .i64 0, .string ⟨#[97, 111]⟩, .complex .f64 0 0] 25) = w1 at U1 Q1_1 ⊢
  generalize w1a.heap.size = x1 at Q1_1 ⊢
  refine (Tryd.parseN (HD.out.on (U1.out.mono hB)) (Nat.le_trans hB U1.out.size) [45, 55] (by decide) (by decide) (by decide) (by decide)).mono ?_
  rintro e w2a ⟨rfl, hb⟩
  rw [k2]
  dsimp only [vS, vN, v0, vP, vC]
  have A2 := Lib.hid (U1.out.trans (hb.mono U1.out.size))
  have Q1_2 := Lib.hid (Q1_1.out.below hb)
  clear hb
  go_wp2_with fail
  have hal := (Below.refl w2a.heap.size w2a).alloc (Nat.le_refl _) (.cells #[.int .i64 1, .int .i64 (-7), .string ⟨#[]⟩, .complex .f64 0 0] 25)
  have U2 := Lib.hid (A2.out.trans (hal.mono A2.out.size))
  have Q1_2 := Lib.hid (Q1_2.out.below hal)
  have Q3_2 := Lib.hid (Bx.of w2a 1 (-7) ⟨#[]⟩ 0 0)
  clear hal
  generalize w2a.alloc (.cells #[.int .i64 1, .int .i64 (-7), .string ⟨#[]⟩, .complex .f64 0 0] 25) = w2 at U2 Q1_2 Q3_2 ⊢
  generalize w2a.heap.size = x3 at Q3_2 ⊢
  refine (Tryd.parseP (HD.out.on (U2.out.mono hB)) (Nat.le_trans hB U2.out.size)).mono ?_
  rintro e w3a ⟨rfl, hb⟩
  dsimp only [vS, vN, v0, vP, vC]
  have A3 := Lib.hid (U2.out.trans (hb.mono U2.out.size))
  have Q1_3 := Lib.hid (Q1_2.out.below hb)
  have Q3_3 := Lib.hid (Q3_2.out.below hb)
  clear hb
  go_wp2_with fail
  have hal := (Below.refl w3a.heap.size w3a).alloc (Nat.le_refl _) (.cells #[.int .i64 3, .int .i64 0, .string ⟨#[]⟩, .complex .f64 13830554455654793216 4611686018427387904] 25)
  have U3 := Lib.hid (A3.out.trans (hal.mono A3.out.size))
  have Q1_3 := Lib.hid (Q1_3.out.below hal)
  have Q3_3 := Lib.hid (Q3_3.out.below hal)
  have Q5_3 := Lib.hid (Bx.of w3a 3 0 ⟨#[]⟩ 13830554455654793216 4611686018427387904)
  clear hal
  generalize w3a.alloc (.cells #[.int .i64 3, .int .i64 0, .string ⟨#[]⟩, .complex .f64 13830554455654793216 4611686018427387904] 25) = w3 at U3 Q1_3 Q3_3 Q5_3 ⊢
  generalize w3a.heap.size = x5 at Q5_3 ⊢
  refine (Tryd.parseNull _).mono ?_
  rintro e w4a ⟨rfl, hb⟩
  dsimp only [vS, vN, v0, vP, vC]
  have A4 := Lib.hid (U3.out.trans (hb.mono U3.out.size))
  have Q1_4 := Lib.hid (Q1_3.out.below hb)
  have Q3_4 := Lib.hid (Q3_3.out.below hb)
  have Q5_4 := Lib.hid (Q5_3.out.below hb)
  clear hb
  go_wp2_with fail
  have hal := (Below.refl w4a.heap.size w4a).alloc (Nat.le_refl _) (.cells #[.int .i64 0, .int .i64 0, .string ⟨#[]⟩, .complex .f64 0 0] 25)
  have U4 := Lib.hid (A4.out.trans (hal.mono A4.out.size))
  have Q1_4 := Lib.hid (Q1_4.out.below hal)
  have Q3_4 := Lib.hid (Q3_4.out.below hal)
  have Q5_4 := Lib.hid (Q5_4.out.below hal)
  have Q7_4 := Lib.hid (Bx.of w4a 0 0 ⟨#[]⟩ 0 0)
  clear hal
  generalize w4a.alloc (.cells #[.int .i64 0, .int .i64 0, .string ⟨#[]⟩, .complex .f64 0 0] 25) = w4 at U4 Q1_4 Q3_4 Q5_4 Q7_4 ⊢
  generalize w4a.heap.size = x7 at Q7_4 ⊢
  refine (Tryd.parseB [54] (by decide) _).mono ?_
  rintro e w5a ⟨rfl, hb⟩
  rw [k5]
  dsimp only [vS, vN, v0, vP, vC]
  have A5 := Lib.hid (U4.out.trans (hb.mono U4.out.size))
  have Q1_5 := Lib.hid (Q1_4.out.below hb)
  have Q3_5 := Lib.hid (Q3_4.out.below hb)
  have Q5_5 := Lib.hid (Q5_4.out.below hb)
  have Q7_5 := Lib.hid (Q7_4.out.below hb)
  clear hb
  go_wp2_with fail
  have hal := (Below.refl w5a.heap.size w5a).alloc (Nat.le_refl _) (.cells #[.int .i64 0, .int .i64 0, .string ⟨#[]⟩, .complex .f64 0 0] 25)
  have U5 := Lib.hid (A5.out.trans (hal.mono A5.out.size))
  have Q1_5 := Lib.hid (Q1_5.out.below hal)
  have Q3_5 := Lib.hid (Q3_5.out.below hal)
  have Q5_5 := Lib.hid (Q5_5.out.below hal)
  have Q7_5 := Lib.hid (Q7_5.out.below hal)
  clear hal
  generalize w5a.alloc (.cells #[.int .i64 0, .int .i64 0, .string ⟨#[]⟩, .complex .f64 0 0] 25) = w5 at U5 Q1_5 Q3_5 Q5_5 Q7_5 ⊢
  generalize w5a.heap.size = x9 at ⊢
  refine (Tryd.parseN (HD.out.on (U5.out.mono hB)) (Nat.le_trans hB U5.out.size) [57, 50, 50, 51, 51, 55, 50, 48, 51, 54, 56, 53, 52, 55, 55, 53, 56, 48, 56] (by decide) (by decide) (by decide) (by decide)).mono ?_
  rintro e w6a ⟨rfl, hb⟩
  rw [k6]
  dsimp only [vS, vN, v0, vP, vC]
  have A6 := Lib.hid (U5.out.trans (hb.mono U5.out.size))
  have Q1_6 := Lib.hid (Q1_5.out.below hb)
  have Q3_6 := Lib.hid (Q3_5.out.below hb)
  have Q5_6 := Lib.hid (Q5_5.out.below hb)
  have Q7_6 := Lib.hid (Q7_5.out.below hb)
  clear hb
  go_wp2_with fail
  have hal := (Below.refl w6a.heap.size w6a).alloc (Nat.le_refl _) (.cells #[.int .i64 0, .int .i64 0, .string ⟨#[]⟩, .complex .f64 0 0] 25)
  have U6 := Lib.hid (A6.out.trans (hal.mono A6.out.size))
  have Q1_6 := Lib.hid (Q1_6.out.below hal)
  have Q3_6 := Lib.hid (Q3_6.out.below hal)
  have Q5_6 := Lib.hid (Q5_6.out.below hal)
  have Q7_6 := Lib.hid (Q7_6.out.below hal)
  clear hal
  generalize w6a.alloc (.cells #[.int .i64 0, .int .i64 0, .string ⟨#[]⟩, .complex .f64 0 0] 25) = w6 at U6 Q1_6 Q3_6 Q5_6 Q7_6 ⊢
  generalize w6a.heap.size = x11 at ⊢
  refine (Tryd.parseB [54, 65] (by decide) _).mono ?_
  rintro e w7a ⟨rfl, hb⟩
  rw [k7]
  dsimp only [vS, vN, v0, vP, vC]
  have A7 := Lib.hid (U6.out.trans (hb.mono U6.out.size))
  have Q1_7 := Lib.hid (Q1_6.out.below hb)
  have Q3_7 := Lib.hid (Q3_6.out.below hb)
  have Q5_7 := Lib.hid (Q5_6.out.below hb)
  have Q7_7 := Lib.hid (Q7_6.out.below hb)
  clear hb
  go_wp2_with fail
  have hal := (Below.refl w7a.heap.size w7a).alloc (Nat.le_refl _) (.cells #[.int .i64 0, .int .i64 0, .string ⟨#[]⟩, .complex .f64 0 0] 25)
  have U7 := Lib.hid (A7.out.trans (hal.mono A7.out.size))
  have Q1_7 := Lib.hid (Q1_7.out.below hal)
  have Q3_7 := Lib.hid (Q3_7.out.below hal)
  have Q5_7 := Lib.hid (Q5_7.out.below hal)
  have Q7_7 := Lib.hid (Q7_7.out.below hal)
  clear hal
  generalize w7a.alloc (.cells #[.int .i64 0, .int .i64 0, .string ⟨#[]⟩, .complex .f64 0 0] 25) = w7 at U7 Q1_7 Q3_7 Q5_7 Q7_7 ⊢
  generalize w7a.heap.size = x13 at ⊢
  have eP := eqP
  have eS := eqS
  have eN := eqN
  have e0 := eq0
  have hG := eqG
  have hL := bs_list
  have hT1 : ∀ w, Calls Tryd.prog 10 #[.agg #[.int .i64 2, .int .i64 0, .string ⟨#[97, 111]⟩, .complex .f64 0 0]] w fun e w' => e = .returned (.string ⟨#[34, 54, 49, 54, 102]⟩) ∧ Below w.heap.size w w' := Tryd.textS [97, 111] (by decide)
  have hSm : ∀ w, Calls Tryd.prog 15 #[.agg #[.int .i64 1, .int .i64 (-7), .string ⟨#[]⟩, .complex .f64 0 0], .agg #[.int .i64 1, .int .i64 (-7), .string ⟨#[]⟩, .complex .f64 0 0]] w fun e w' => e = .returned (.bool true) ∧ Below w.heap.size w w' := Tryd.sameN (-7) (-7)
  have hV1 : ∀ w, Calls Tryd.prog 11 #[.agg #[.int .i64 2, .int .i64 0, .string ⟨#[97, 111]⟩, .complex .f64 0 0]] w fun e w' => e = .returned (.int .i64 0) ∧ Below w.heap.size w w' := Tryd.vcheckS ⟨#[97, 111]⟩ (by decide)
  have S0a : Hid (KS w7 x1 x3 x5 x7) := Lib.hid ⟨Q1_7.out, Q3_7.out, Q5_7.out, Q7_7.out⟩
  have S0 := Lib.hid (KS.below S0a.out (Below.refl _ w7).drew)
  have B0 := Lib.hid U7.out.drew
  clear Q1_1 Q1_2 Q3_2 Q1_3 Q3_3 Q5_3 Q1_4 Q3_4 Q5_4 Q7_4 Q1_5 Q3_5 Q5_5 Q7_5 Q1_6 Q3_6 Q5_6 Q7_6 Q1_7 Q3_7 Q5_7 Q7_7
  go_upto_region 8 with fail
  refine wp_region_noPanic ?_
  refine wp_region_held_drew (S := (fun Z => KS Z x1 x3 x5 x7)) (by kernel_rfl) ?_ (fun hHeld => ?_)
  · exact S0a.out
  refine wpAnyH_take (i := 0) (oi := { dst := some 43, op := Op.move (Operand.tmp 2), type := 26, pos := "law.go:91", after := #[], guard := none }) (v := ?_) rfl (by kernel_rfl) (by kernel_rfl) (by kernel_rfl) (fun _ _ _ h => h) (Or.inl ⟨by rfl, ?_⟩) (by assumption) ?_
  rotate_left
  · (intro w hSw; (try dsimp only at hSw); go_simp; try with_reducible rfl)
  try simp only [Act.put, List.setIfInBounds_toArray, List.set_cons_zero, List.set_cons_succ]
  refine wpAnyH_take (i := 1) (oi := { dst := some 44, op := Op.move (Operand.tmp 4), type := 26, pos := "law.go:91", after := #[], guard := none }) (v := ?_) rfl (by kernel_rfl) (by kernel_rfl) (by kernel_rfl) (fun _ _ _ h => h) (Or.inl ⟨by rfl, ?_⟩) (by assumption) ?_
  rotate_left
  · (intro w hSw; (try dsimp only at hSw); go_simp; try with_reducible rfl)
  try simp only [Act.put, List.setIfInBounds_toArray, List.set_cons_zero, List.set_cons_succ]
  refine wpAnyH_take (i := 2) (oi := { dst := some 45, op := Op.binOp BinOp.add 3 (Operand.tmp 43) (Operand.tmp 44) 3, type := 3, pos := "law.go:91", after := #[{ on := 0, ground := Ground.data }, { on := 1, ground := Ground.data }], guard := none }) (v := ?_) rfl (by kernel_rfl) (by kernel_rfl) (by kernel_rfl) (fun _ _ _ h => h) (Or.inl ⟨by rfl, ?_⟩) (by assumption) ?_
  rotate_left
  · (intro w hSw; (try dsimp only at hSw); go_simp; try with_reducible rfl)
  try simp only [Act.put, List.setIfInBounds_toArray, List.set_cons_zero, List.set_cons_succ]
  refine wpAnyH_take (i := 3) (oi := { dst := some 46, op := Op.move (Operand.tmp 6), type := 26, pos := "law.go:91", after := #[], guard := none }) (v := ?_) rfl (by kernel_rfl) (by kernel_rfl) (by kernel_rfl) (fun _ _ _ h => h) (Or.inl ⟨by rfl, ?_⟩) (by assumption) ?_
  rotate_left
  · (intro w hSw; (try dsimp only at hSw); go_simp; try with_reducible rfl)
  try simp only [Act.put, List.setIfInBounds_toArray, List.set_cons_zero, List.set_cons_succ]
  refine wpAnyH_take (i := 4) (oi := { dst := some 47, op := Op.binOp BinOp.add 3 (Operand.tmp 45) (Operand.tmp 46) 3, type := 3, pos := "law.go:91", after := #[{ on := 2, ground := Ground.data }, { on := 3, ground := Ground.data }], guard := none }) (v := ?_) rfl (by kernel_rfl) (by kernel_rfl) (by kernel_rfl) (fun _ _ _ h => h) (Or.inl ⟨by rfl, ?_⟩) (by assumption) ?_
  rotate_left
  · (intro w hSw; (try dsimp only at hSw); go_simp; try with_reducible rfl)
  try simp only [Act.put, List.setIfInBounds_toArray, List.set_cons_zero, List.set_cons_succ]
  refine wpAnyH_take (i := 5) (oi := { dst := some 48, op := Op.move (Operand.tmp 8), type := 26, pos := "law.go:91", after := #[], guard := none }) (v := ?_) rfl (by kernel_rfl) (by kernel_rfl) (by kernel_rfl) (fun _ _ _ h => h) (Or.inl ⟨by rfl, ?_⟩) (by assumption) ?_
  rotate_left
  · (intro w hSw; (try dsimp only at hSw); go_simp; try with_reducible rfl)
  try simp only [Act.put, List.setIfInBounds_toArray, List.set_cons_zero, List.set_cons_succ]
  refine wpAnyH_take (i := 6) (oi := { dst := some 49, op := Op.binOp BinOp.add 3 (Operand.tmp 47) (Operand.tmp 48) 3, type := 3, pos := "law.go:91", after := #[{ on := 4, ground := Ground.data }, { on := 5, ground := Ground.data }], guard := none }) (v := ?_) rfl (by kernel_rfl) (by kernel_rfl) (by kernel_rfl) (fun _ _ _ h => h) (Or.inl ⟨by rfl, ?_⟩) (by assumption) ?_
  rotate_left
  · (intro w hSw; (try dsimp only at hSw); go_simp; try with_reducible rfl)
  try simp only [Act.put, List.setIfInBounds_toArray, List.set_cons_zero, List.set_cons_succ]
  refine wpAnyH_take (i := 7) (oi := { dst := some 50, op := Op.binOp BinOp.eql 3 (Operand.tmp 49) (Operand.const (Value.int IntKind.i64 0)) 3, type := 4, pos := "law.go:91", after := #[{ on := 6, ground := Ground.data }], guard := none }) (v := ?_) rfl (by kernel_rfl) (by kernel_rfl) (by kernel_rfl) (fun _ _ _ h => h) (Or.inl ⟨by rfl, ?_⟩) (by assumption) ?_
  rotate_left
  · (intro w hSw; (try dsimp only at hSw); go_simp; try with_reducible rfl)
  try simp only [Act.put, List.setIfInBounds_toArray, List.set_cons_zero, List.set_cons_succ]
  refine wpAnyH_take (i := 8) (oi := { dst := some 51, op := Op.move (Operand.tmp 50), type := 4, pos := "law.go:91", after := #[{ on := 7, ground := Ground.data }], guard := none }) (v := ?_) rfl (by kernel_rfl) (by kernel_rfl) (by kernel_rfl) (fun _ _ _ h => h) (Or.inl ⟨by rfl, ?_⟩) (by assumption) ?_
  rotate_left
  · (intro w hSw; (try dsimp only at hSw); go_simp; try with_reducible rfl)
  try simp only [Act.put, List.setIfInBounds_toArray, List.set_cons_zero, List.set_cons_succ]
  refine wpAnyH_take (i := 9) (oi := { dst := some 52, op := Op.load 25 (Operand.tmp 1), type := 25, pos := "law.go:91", after := #[{ on := 8, ground := Ground.guard }], guard := some (8, true) }) (v := ?_) rfl (by kernel_rfl) (by kernel_rfl) (by kernel_rfl) (fun _ _ _ h => h) (Or.inl ⟨by rfl, ?_⟩) (by assumption) ?_
  rotate_left
  · (intro w hSw; (try dsimp only at hSw); (obtain ⟨⟨p1, p2, p3, p4⟩, ⟨q1, q2, q3, q4⟩, ⟨r1, r2, r3, r4⟩, s1, s2, s3, s4⟩ := hSw); go_simp; try with_reducible rfl)
  try simp only [Act.put, List.setIfInBounds_toArray, List.set_cons_zero, List.set_cons_succ]
  refine wpAnyH_ready (rs := [10]) (by kernel_rfl) (by simp) ?_
  refine AllReadyH.cons (o := { dst := some 53, op := Op.call { callee := Callee.value (Operand.func 12), args := #[Operand.const (Value.string { data := #[97, 111] })], argTypes := #[9] }, type := 25, pos := "law.go:91", after := #[{ on := 8, ground := Ground.chain }, { on := 8, ground := Ground.guard }], guard := some (8, true) }) rfl (fun K hK => ?_) AllReadyH.nil
  go_simp
  refine (Tryd.ssU ⟨#[97, 111]⟩ _).mono ?_
  rintro e V1 ⟨rfl, hb⟩
  have B1 := Lib.hid (B0.out.trans (hb.mono B0.out.size))
  have S1 := Lib.hid (KS.below S0.out hb)
  clear hb
  refine hK.out _ _ ?_ (fun hHeld => ?_)
  · exact S1.out
  clear hK K
  try simp only [Act.put, List.setIfInBounds_toArray, List.set_cons_zero, List.set_cons_succ]
  refine wpAnyH_take (i := 11) (oi := { dst := some 54, op := Op.binOp BinOp.eql 25 (Operand.tmp 52) (Operand.tmp 53) 25, type := 4, pos := "law.go:91", after := #[{ on := 9, ground := Ground.data }, { on := 10, ground := Ground.data }, { on := 8, ground := Ground.guard }], guard := some (8, true) }) (v := ?_) rfl (by kernel_rfl) (by kernel_rfl) (by kernel_rfl) (fun _ _ _ h => h) (Or.inl ⟨by rfl, ?_⟩) (by assumption) ?_
  rotate_left
  · (intro w hSw; (try dsimp only at hSw); go_simp; try with_reducible rfl)
  try simp only [Act.put, List.setIfInBounds_toArray, List.set_cons_zero, List.set_cons_succ]
  refine wpAnyH_take (i := 12) (oi := { dst := some 55, op := Op.pick (Operand.tmp 51) (Operand.tmp 54) (Operand.const (Value.bool false)), type := 4, pos := "law.go:91", after := #[{ on := 8, ground := Ground.data }, { on := 11, ground := Ground.data }], guard := none }) (v := ?_) rfl (by kernel_rfl) (by kernel_rfl) (by kernel_rfl) (fun _ _ _ h => h) (Or.inl ⟨by rfl, ?_⟩) (by assumption) ?_
  rotate_left
  · (intro w hSw; (try dsimp only at hSw); go_simp; try with_reducible rfl)
  try simp only [Act.put, List.setIfInBounds_toArray, List.set_cons_zero, List.set_cons_succ]
  refine wpAnyH_take (i := 13) (oi := { dst := some 56, op := Op.move (Operand.tmp 55), type := 4, pos := "law.go:91", after := #[{ on := 12, ground := Ground.data }, { on := 10, ground := Ground.chain }], guard := none }) (v := ?_) rfl (by kernel_rfl) (by kernel_rfl) (by kernel_rfl) (fun _ _ _ h => h) (Or.inl ⟨by rfl, ?_⟩) (by assumption) ?_
  rotate_left
  · (intro w hSw; (try dsimp only at hSw); go_simp; try with_reducible rfl)
  try simp only [Act.put, List.setIfInBounds_toArray, List.set_cons_zero, List.set_cons_succ]
  refine wpAnyH_take (i := 14) (oi := { dst := some 57, op := Op.load 25 (Operand.tmp 3), type := 25, pos := "law.go:91", after := #[{ on := 13, ground := Ground.guard }], guard := some (13, true) }) (v := ?_) rfl (by kernel_rfl) (by kernel_rfl) (by kernel_rfl) (fun _ _ _ h => h) (Or.inl ⟨by rfl, ?_⟩) (by assumption) ?_
  rotate_left
  · (intro w hSw; (try dsimp only at hSw); (obtain ⟨⟨p1, p2, p3, p4⟩, ⟨q1, q2, q3, q4⟩, ⟨r1, r2, r3, r4⟩, s1, s2, s3, s4⟩ := hSw); go_simp; try with_reducible rfl)
  try simp only [Act.put, List.setIfInBounds_toArray, List.set_cons_zero, List.set_cons_succ]
  refine wpAnyH_ready (rs := [15]) (by kernel_rfl) (by simp) ?_
  refine AllReadyH.cons (o := { dst := some 58, op := Op.call { callee := Callee.value (Operand.func 14), args := #[Operand.const (Value.int IntKind.i64 (-7))], argTypes := #[2] }, type := 25, pos := "law.go:91", after := #[{ on := 13, ground := Ground.chain }, { on := 13, ground := Ground.guard }], guard := some (13, true) }) rfl (fun K hK => ?_) AllReadyH.nil
  go_simp
  refine (Tryd.nnU (-7) _).mono ?_
  rintro e V2 ⟨rfl, hb⟩
  have B2 := Lib.hid (B1.out.trans (hb.mono B1.out.size))
  have S2 := Lib.hid (KS.below S1.out hb)
  clear hb
  refine hK.out _ _ ?_ (fun hHeld => ?_)
  · exact S2.out
  clear hK K
  try simp only [Act.put, List.setIfInBounds_toArray, List.set_cons_zero, List.set_cons_succ]
  refine wpAnyH_take (i := 16) (oi := { dst := some 59, op := Op.binOp BinOp.eql 25 (Operand.tmp 57) (Operand.tmp 58) 25, type := 4, pos := "law.go:91", after := #[{ on := 14, ground := Ground.data }, { on := 15, ground := Ground.data }, { on := 13, ground := Ground.guard }], guard := some (13, true) }) (v := ?_) rfl (by kernel_rfl) (by kernel_rfl) (by kernel_rfl) (fun _ _ _ h => h) (Or.inl ⟨by rfl, ?_⟩) (by assumption) ?_
  rotate_left
  · (intro w hSw; (try dsimp only at hSw); go_simp; try with_reducible rfl)
  try simp only [Act.put, List.setIfInBounds_toArray, List.set_cons_zero, List.set_cons_succ]
  refine wpAnyH_take (i := 17) (oi := { dst := some 60, op := Op.pick (Operand.tmp 56) (Operand.tmp 59) (Operand.const (Value.bool false)), type := 4, pos := "law.go:91", after := #[{ on := 13, ground := Ground.data }, { on := 16, ground := Ground.data }], guard := none }) (v := ?_) rfl (by kernel_rfl) (by kernel_rfl) (by kernel_rfl) (fun _ _ _ h => h) (Or.inl ⟨by rfl, ?_⟩) (by assumption) ?_
  rotate_left
  · (intro w hSw; (try dsimp only at hSw); go_simp; try with_reducible rfl)
  try simp only [Act.put, List.setIfInBounds_toArray, List.set_cons_zero, List.set_cons_succ]
  refine wpAnyH_take (i := 18) (oi := { dst := some 61, op := Op.move (Operand.tmp 60), type := 4, pos := "law.go:91", after := #[{ on := 17, ground := Ground.data }, { on := 15, ground := Ground.chain }], guard := none }) (v := ?_) rfl (by kernel_rfl) (by kernel_rfl) (by kernel_rfl) (fun _ _ _ h => h) (Or.inl ⟨by rfl, ?_⟩) (by assumption) ?_
  rotate_left
  · (intro w hSw; (try dsimp only at hSw); go_simp; try with_reducible rfl)
  try simp only [Act.put, List.setIfInBounds_toArray, List.set_cons_zero, List.set_cons_succ]
  refine wpAnyH_take (i := 19) (oi := { dst := some 62, op := Op.load 25 (Operand.tmp 5), type := 25, pos := "law.go:91", after := #[{ on := 18, ground := Ground.guard }], guard := some (18, true) }) (v := ?_) rfl (by kernel_rfl) (by kernel_rfl) (by kernel_rfl) (fun _ _ _ h => h) (Or.inl ⟨by rfl, ?_⟩) (by assumption) ?_
  rotate_left
  · (intro w hSw; (try dsimp only at hSw); (obtain ⟨⟨p1, p2, p3, p4⟩, ⟨q1, q2, q3, q4⟩, ⟨r1, r2, r3, r4⟩, s1, s2, s3, s4⟩ := hSw); go_simp; try with_reducible rfl)
  try simp only [Act.put, List.setIfInBounds_toArray, List.set_cons_zero, List.set_cons_succ]
  as_aux_lemma =>
    refine wpAnyH_ready (rs := [20]) (by kernel_rfl) (by simp) ?_
    refine AllReadyH.cons (o := { dst := some 63, op := Op.call { callee := Callee.value (Operand.func 16), args := #[Operand.const (Value.int IntKind.i64 (-1)), Operand.const (Value.int IntKind.i64 2)], argTypes := #[3, 3] }, type := 25, pos := "law.go:91", after := #[{ on := 18, ground := Ground.chain }, { on := 18, ground := Ground.guard }], guard := some (18, true) }) rfl (fun K hK => ?_) AllReadyH.nil
    go_simp
    refine (cvtU (-1) _ cM1 2 _ c2 _).mono ?_
    rintro e V3 ⟨rfl, hb⟩
    have B3 := Lib.hid (B2.out.trans (hb.mono B2.out.size))
    have S3 := Lib.hid (KS.below S2.out hb)
    clear hb
    refine hK.out _ _ ?_ (fun hHeld => ?_)
    · exact S3.out
    clear hK K
    try simp only [Act.put, List.setIfInBounds_toArray, List.set_cons_zero, List.set_cons_succ]
    refine wpAnyH_take (i := 21) (oi := { dst := some 64, op := Op.binOp BinOp.eql 25 (Operand.tmp 62) (Operand.tmp 63) 25, type := 4, pos := "law.go:91", after := #[{ on := 19, ground := Ground.data }, { on := 20, ground := Ground.data }, { on := 18, ground := Ground.guard }], guard := some (18, true) }) (v := ?_) rfl (by kernel_rfl) (by kernel_rfl) (by kernel_rfl) (fun _ _ _ h => h) (Or.inl ⟨by rfl, ?_⟩) (by assumption) ?_
    rotate_left
    · (intro w hSw; (try dsimp only at hSw); go_simp; try with_reducible rfl)
    try simp only [Act.put, List.setIfInBounds_toArray, List.set_cons_zero, List.set_cons_succ]
    refine wpAnyH_take (i := 22) (oi := { dst := some 65, op := Op.pick (Operand.tmp 61) (Operand.tmp 64) (Operand.const (Value.bool false)), type := 4, pos := "law.go:91", after := #[{ on := 18, ground := Ground.data }, { on := 21, ground := Ground.data }], guard := none }) (v := ?_) rfl (by kernel_rfl) (by kernel_rfl) (by kernel_rfl) (fun _ _ _ h => h) (Or.inl ⟨by rfl, ?_⟩) (by assumption) ?_
    rotate_left
    · (intro w hSw; (try dsimp only at hSw); go_simp; try with_reducible rfl)
    try simp only [Act.put, List.setIfInBounds_toArray, List.set_cons_zero, List.set_cons_succ]
    refine wpAnyH_take (i := 23) (oi := { dst := some 66, op := Op.move (Operand.tmp 65), type := 4, pos := "law.go:91", after := #[{ on := 22, ground := Ground.data }, { on := 20, ground := Ground.chain }], guard := none }) (v := ?_) rfl (by kernel_rfl) (by kernel_rfl) (by kernel_rfl) (fun _ _ _ h => h) (Or.inl ⟨by rfl, ?_⟩) (by assumption) ?_
    rotate_left
    · (intro w hSw; (try dsimp only at hSw); go_simp; try with_reducible rfl)
    try simp only [Act.put, List.setIfInBounds_toArray, List.set_cons_zero, List.set_cons_succ]
    refine wpAnyH_take (i := 24) (oi := { dst := some 67, op := Op.load 25 (Operand.tmp 7), type := 25, pos := "law.go:91", after := #[{ on := 23, ground := Ground.guard }], guard := some (23, true) }) (v := ?_) rfl (by kernel_rfl) (by kernel_rfl) (by kernel_rfl) (fun _ _ _ h => h) (Or.inl ⟨by rfl, ?_⟩) (by assumption) ?_
    rotate_left
    · (intro w hSw; (try dsimp only at hSw); (obtain ⟨⟨p1, p2, p3, p4⟩, ⟨q1, q2, q3, q4⟩, ⟨r1, r2, r3, r4⟩, s1, s2, s3, s4⟩ := hSw); go_simp; try with_reducible rfl)
    try simp only [Act.put, List.setIfInBounds_toArray, List.set_cons_zero, List.set_cons_succ]
    refine wpAnyH_take (i := 25) (oi := { dst := some 68, op := Op.build 25 #[], type := 25, pos := "law.go:91", after := #[{ on := 23, ground := Ground.guard }], guard := some (23, true) }) (v := ?_) rfl (by kernel_rfl) (by kernel_rfl) (by kernel_rfl) (fun _ _ _ h => h) (Or.inl ⟨by rfl, ?_⟩) (by assumption) ?_
    rotate_left
    · (intro w hSw; (try dsimp only at hSw); go_simp; try with_reducible rfl)
    try simp only [Act.put, List.setIfInBounds_toArray, List.set_cons_zero, List.set_cons_succ]
    refine wpAnyH_take (i := 26) (oi := { dst := some 69, op := Op.binOp BinOp.eql 25 (Operand.tmp 67) (Operand.tmp 68) 25, type := 4, pos := "law.go:91", after := #[{ on := 24, ground := Ground.data }, { on := 25, ground := Ground.data }, { on := 23, ground := Ground.guard }], guard := some (23, true) }) (v := ?_) rfl (by kernel_rfl) (by kernel_rfl) (by kernel_rfl) (fun _ _ _ h => h) (Or.inl ⟨by rfl, ?_⟩) (by assumption) ?_
    rotate_left
    · (intro w hSw; (try dsimp only at hSw); go_simp; try with_reducible rfl)
    try simp only [Act.put, List.setIfInBounds_toArray, List.set_cons_zero, List.set_cons_succ]
    refine wpAnyH_take (i := 27) (oi := { dst := some 70, op := Op.pick (Operand.tmp 66) (Operand.tmp 69) (Operand.const (Value.bool false)), type := 4, pos := "law.go:91", after := #[{ on := 23, ground := Ground.data }, { on := 26, ground := Ground.data }], guard := none }) (v := ?_) rfl (by kernel_rfl) (by kernel_rfl) (by kernel_rfl) (fun _ _ _ h => h) (Or.inl ⟨by rfl, ?_⟩) (by assumption) ?_
    rotate_left
    · (intro w hSw; (try dsimp only at hSw); go_simp; try with_reducible rfl)
    try simp only [Act.put, List.setIfInBounds_toArray, List.set_cons_zero, List.set_cons_succ]
    refine wpAnyH_take (i := 28) (oi := { dst := some 71, op := Op.move (Operand.tmp 70), type := 4, pos := "law.go:91", after := #[{ on := 27, ground := Ground.data }, { on := 23, ground := Ground.chain }], guard := none }) (v := ?_) rfl (by kernel_rfl) (by kernel_rfl) (by kernel_rfl) (fun _ _ _ h => h) (Or.inl ⟨by rfl, ?_⟩) (by assumption) ?_
    rotate_left
    · (intro w hSw; (try dsimp only at hSw); go_simp; try with_reducible rfl)
    try simp only [Act.put, List.setIfInBounds_toArray, List.set_cons_zero, List.set_cons_succ]
    refine wpAnyH_take (i := 29) (oi := { dst := some 72, op := Op.move (Operand.tmp 10), type := 26, pos := "law.go:91", after := #[{ on := 28, ground := Ground.guard }], guard := some (28, true) }) (v := ?_) rfl (by kernel_rfl) (by kernel_rfl) (by kernel_rfl) (fun _ _ _ h => h) (Or.inl ⟨by rfl, ?_⟩) (by assumption) ?_
    rotate_left
    · (intro w hSw; (try dsimp only at hSw); go_simp; try with_reducible rfl)
    try simp only [Act.put, List.setIfInBounds_toArray, List.set_cons_zero, List.set_cons_succ]
    refine wpAnyH_take (i := 30) (oi := { dst := some 73, op := Op.binOp BinOp.eql 3 (Operand.tmp 72) (Operand.const (Value.int IntKind.i64 2)) 3, type := 4, pos := "law.go:91", after := #[{ on := 29, ground := Ground.data }, { on := 28, ground := Ground.guard }], guard := some (28, true) }) (v := ?_) rfl (by kernel_rfl) (by kernel_rfl) (by kernel_rfl) (fun _ _ _ h => h) (Or.inl ⟨by rfl, ?_⟩) (by assumption) ?_
    rotate_left
    · (intro w hSw; (try dsimp only at hSw); go_simp; try with_reducible rfl)
    try simp only [Act.put, List.setIfInBounds_toArray, List.set_cons_zero, List.set_cons_succ]
    refine wpAnyH_take (i := 31) (oi := { dst := some 74, op := Op.pick (Operand.tmp 71) (Operand.tmp 73) (Operand.const (Value.bool false)), type := 4, pos := "law.go:91", after := #[{ on := 28, ground := Ground.data }, { on := 30, ground := Ground.data }], guard := none }) (v := ?_) rfl (by kernel_rfl) (by kernel_rfl) (by kernel_rfl) (fun _ _ _ h => h) (Or.inl ⟨by rfl, ?_⟩) (by assumption) ?_
    rotate_left
    · (intro w hSw; (try dsimp only at hSw); go_simp; try with_reducible rfl)
    try simp only [Act.put, List.setIfInBounds_toArray, List.set_cons_zero, List.set_cons_succ]
    refine wpAnyH_take (i := 32) (oi := { dst := some 75, op := Op.move (Operand.tmp 74), type := 4, pos := "law.go:91", after := #[{ on := 31, ground := Ground.data }, { on := 28, ground := Ground.chain }], guard := none }) (v := ?_) rfl (by kernel_rfl) (by kernel_rfl) (by kernel_rfl) (fun _ _ _ h => h) (Or.inl ⟨by rfl, ?_⟩) (by assumption) ?_
    rotate_left
    · (intro w hSw; (try dsimp only at hSw); go_simp; try with_reducible rfl)
    try simp only [Act.put, List.setIfInBounds_toArray, List.set_cons_zero, List.set_cons_succ]
    refine wpAnyH_take (i := 33) (oi := { dst := some 76, op := Op.move (Operand.tmp 12), type := 26, pos := "law.go:91", after := #[{ on := 32, ground := Ground.guard }], guard := some (32, true) }) (v := ?_) rfl (by kernel_rfl) (by kernel_rfl) (by kernel_rfl) (fun _ _ _ h => h) (Or.inl ⟨by rfl, ?_⟩) (by assumption) ?_
    rotate_left
    · (intro w hSw; (try dsimp only at hSw); go_simp; try with_reducible rfl)
    try simp only [Act.put, List.setIfInBounds_toArray, List.set_cons_zero, List.set_cons_succ]
    refine wpAnyH_take (i := 34) (oi := { dst := some 77, op := Op.binOp BinOp.eql 3 (Operand.tmp 76) (Operand.const (Value.int IntKind.i64 1)) 3, type := 4, pos := "law.go:91", after := #[{ on := 33, ground := Ground.data }, { on := 32, ground := Ground.guard }], guard := some (32, true) }) (v := ?_) rfl (by kernel_rfl) (by kernel_rfl) (by kernel_rfl) (fun _ _ _ h => h) (Or.inl ⟨by rfl, ?_⟩) (by assumption) ?_
    rotate_left
    · (intro w hSw; (try dsimp only at hSw); go_simp; try with_reducible rfl)
    try simp only [Act.put, List.setIfInBounds_toArray, List.set_cons_zero, List.set_cons_succ]
    refine wpAnyH_take (i := 35) (oi := { dst := some 78, op := Op.pick (Operand.tmp 75) (Operand.tmp 77) (Operand.const (Value.bool false)), type := 4, pos := "law.go:91", after := #[{ on := 32, ground := Ground.data }, { on := 34, ground := Ground.data }], guard := none }) (v := ?_) rfl (by kernel_rfl) (by kernel_rfl) (by kernel_rfl) (fun _ _ _ h => h) (Or.inl ⟨by rfl, ?_⟩) (by assumption) ?_
    rotate_left
    · (intro w hSw; (try dsimp only at hSw); go_simp; try with_reducible rfl)
    try simp only [Act.put, List.setIfInBounds_toArray, List.set_cons_zero, List.set_cons_succ]
    refine wpAnyH_take (i := 36) (oi := { dst := some 79, op := Op.move (Operand.tmp 78), type := 4, pos := "law.go:91", after := #[{ on := 35, ground := Ground.data }, { on := 32, ground := Ground.chain }], guard := none }) (v := ?_) rfl (by kernel_rfl) (by kernel_rfl) (by kernel_rfl) (fun _ _ _ h => h) (Or.inl ⟨by rfl, ?_⟩) (by assumption) ?_
    rotate_left
    · (intro w hSw; (try dsimp only at hSw); go_simp; try with_reducible rfl)
    try simp only [Act.put, List.setIfInBounds_toArray, List.set_cons_zero, List.set_cons_succ]
    refine wpAnyH_take (i := 37) (oi := { dst := some 80, op := Op.move (Operand.tmp 14), type := 26, pos := "law.go:91", after := #[{ on := 36, ground := Ground.guard }], guard := some (36, true) }) (v := ?_) rfl (by kernel_rfl) (by kernel_rfl) (by kernel_rfl) (fun _ _ _ h => h) (Or.inl ⟨by rfl, ?_⟩) (by assumption) ?_
    rotate_left
    · (intro w hSw; (try dsimp only at hSw); go_simp; try with_reducible rfl)
    try simp only [Act.put, List.setIfInBounds_toArray, List.set_cons_zero, List.set_cons_succ]
    refine wpAnyH_take (i := 38) (oi := { dst := some 81, op := Op.binOp BinOp.eql 3 (Operand.tmp 80) (Operand.const (Value.int IntKind.i64 2)) 3, type := 4, pos := "law.go:91", after := #[{ on := 37, ground := Ground.data }, { on := 36, ground := Ground.guard }], guard := some (36, true) }) (v := ?_) rfl (by kernel_rfl) (by kernel_rfl) (by kernel_rfl) (fun _ _ _ h => h) (Or.inl ⟨by rfl, ?_⟩) (by assumption) ?_
    rotate_left
    · (intro w hSw; (try dsimp only at hSw); go_simp; try with_reducible rfl)
    try simp only [Act.put, List.setIfInBounds_toArray, List.set_cons_zero, List.set_cons_succ]
    refine wpAnyH_take (i := 39) (oi := { dst := some 82, op := Op.pick (Operand.tmp 79) (Operand.tmp 81) (Operand.const (Value.bool false)), type := 4, pos := "law.go:91", after := #[{ on := 36, ground := Ground.data }, { on := 38, ground := Ground.data }], guard := none }) (v := ?_) rfl (by kernel_rfl) (by kernel_rfl) (by kernel_rfl) (fun _ _ _ h => h) (Or.inl ⟨by rfl, ?_⟩) (by assumption) ?_
    rotate_left
    · (intro w hSw; (try dsimp only at hSw); go_simp; try with_reducible rfl)
    try simp only [Act.put, List.setIfInBounds_toArray, List.set_cons_zero, List.set_cons_succ]
    refine wpAnyH_take (i := 40) (oi := { dst := some 83, op := Op.move (Operand.tmp 82), type := 4, pos := "law.go:91", after := #[{ on := 39, ground := Ground.data }, { on := 36, ground := Ground.chain }], guard := none }) (v := ?_) rfl (by kernel_rfl) (by kernel_rfl) (by kernel_rfl) (fun _ _ _ h => h) (Or.inl ⟨by rfl, ?_⟩) (by assumption) ?_
    rotate_left
    · (intro w hSw; (try dsimp only at hSw); go_simp; try with_reducible rfl)
    try simp only [Act.put, List.setIfInBounds_toArray, List.set_cons_zero, List.set_cons_succ]
    refine wpAnyH_take (i := 41) (oi := { dst := some 84, op := Op.load 25 (Operand.tmp 1), type := 25, pos := "law.go:91", after := #[{ on := 40, ground := Ground.guard }], guard := some (40, true) }) (v := ?_) rfl (by kernel_rfl) (by kernel_rfl) (by kernel_rfl) (fun _ _ _ h => h) (Or.inl ⟨by rfl, ?_⟩) (by assumption) ?_
    rotate_left
    · (intro w hSw; (try dsimp only at hSw); (obtain ⟨⟨p1, p2, p3, p4⟩, ⟨q1, q2, q3, q4⟩, ⟨r1, r2, r3, r4⟩, s1, s2, s3, s4⟩ := hSw); go_simp; try with_reducible rfl)
    try simp only [Act.put, List.setIfInBounds_toArray, List.set_cons_zero, List.set_cons_succ]
    refine wpAnyH_ready (rs := [42]) (by kernel_rfl) (by simp) ?_
    refine AllReadyH.cons (o := { dst := some 85, op := Op.call { callee := Callee.value (Operand.func 10), args := #[Operand.tmp 84], argTypes := #[25] }, type := 9, pos := "law.go:91", after := #[{ on := 41, ground := Ground.data }, { on := 40, ground := Ground.chain }, { on := 40, ground := Ground.guard }], guard := some (40, true) }) rfl (fun K hK => ?_) AllReadyH.nil
    go_simp
    refine (hT1 _).mono ?_
    rintro e V4 ⟨rfl, hb⟩
    have B4 := Lib.hid (B3.out.trans (hb.mono B3.out.size))
    have S4 := Lib.hid (KS.below S3.out hb)
    clear hb
    refine hK.out _ _ ?_ (fun hHeld => ?_)
    · exact S4.out
    clear hK K
    try simp only [Act.put, List.setIfInBounds_toArray, List.set_cons_zero, List.set_cons_succ]
    refine wpAnyH_take (i := 43) (oi := { dst := some 86, op := Op.binOp BinOp.eql 9 (Operand.tmp 85) (Operand.const (Value.string { data := #[34, 54, 49, 54, 102] })) 9, type := 4, pos := "law.go:91", after := #[{ on := 42, ground := Ground.data }, { on := 40, ground := Ground.guard }], guard := some (40, true) }) (v := ?_) rfl (by kernel_rfl) (by kernel_rfl) (by kernel_rfl) (fun _ _ _ h => h) (Or.inl ⟨by rfl, ?_⟩) (by assumption) ?_
    rotate_left
    · (intro w hSw; (try dsimp only at hSw); go_simp; try with_reducible rfl)
    try simp only [Act.put, List.setIfInBounds_toArray, List.set_cons_zero, List.set_cons_succ]
    refine wpAnyH_take (i := 44) (oi := { dst := some 87, op := Op.pick (Operand.tmp 83) (Operand.tmp 86) (Operand.const (Value.bool false)), type := 4, pos := "law.go:91", after := #[{ on := 40, ground := Ground.data }, { on := 43, ground := Ground.data }], guard := none }) (v := ?_) rfl (by kernel_rfl) (by kernel_rfl) (by kernel_rfl) (fun _ _ _ h => h) (Or.inl ⟨by rfl, ?_⟩) (by assumption) ?_
    rotate_left
    · (intro w hSw; (try dsimp only at hSw); go_simp; try with_reducible rfl)
    try simp only [Act.put, List.setIfInBounds_toArray, List.set_cons_zero, List.set_cons_succ]
    as_aux_lemma =>
      refine wpAnyH_take (i := 45) (oi := { dst := some 88, op := Op.move (Operand.tmp 87), type := 4, pos := "law.go:91", after := #[{ on := 44, ground := Ground.data }, { on := 42, ground := Ground.chain }], guard := none }) (v := ?_) rfl (by kernel_rfl) (by kernel_rfl) (by kernel_rfl) (fun _ _ _ h => h) (Or.inl ⟨by rfl, ?_⟩) (by assumption) ?_
      rotate_left
      · (intro w hSw; (try dsimp only at hSw); go_simp; try with_reducible rfl)
      try simp only [Act.put, List.setIfInBounds_toArray, List.set_cons_zero, List.set_cons_succ]
      refine wpAnyH_take (i := 46) (oi := { dst := some 89, op := Op.load 25 (Operand.tmp 5), type := 25, pos := "law.go:91", after := #[{ on := 45, ground := Ground.guard }], guard := some (45, true) }) (v := ?_) rfl (by kernel_rfl) (by kernel_rfl) (by kernel_rfl) (fun _ _ _ h => h) (Or.inl ⟨by rfl, ?_⟩) (by assumption) ?_
      rotate_left
      · (intro w hSw; (try dsimp only at hSw); (obtain ⟨⟨p1, p2, p3, p4⟩, ⟨q1, q2, q3, q4⟩, ⟨r1, r2, r3, r4⟩, s1, s2, s3, s4⟩ := hSw); go_simp; try with_reducible rfl)
      try simp only [Act.put, List.setIfInBounds_toArray, List.set_cons_zero, List.set_cons_succ]
      refine wpAnyH_ready (rs := [47]) (by kernel_rfl) (by simp) ?_
      refine AllReadyH.cons (o := { dst := some 90, op := Op.call { callee := Callee.value (Operand.func 10), args := #[Operand.tmp 89], argTypes := #[25] }, type := 9, pos := "law.go:91", after := #[{ on := 46, ground := Ground.data }, { on := 45, ground := Ground.chain }, { on := 45, ground := Ground.guard }], guard := some (45, true) }) rfl (fun K hK => ?_) AllReadyH.nil
      go_simp
      refine (Tryd.textP (HD.out.on (B4.out.mono hB)) (Nat.le_trans hB B4.out.size)).mono ?_
      rintro e V5 ⟨rfl, hb⟩
      have B5 := Lib.hid (B4.out.trans (hb.mono B4.out.size))
      have S5 := Lib.hid (KS.below S4.out hb)
      clear hb
      refine hK.out _ _ ?_ (fun hHeld => ?_)
      · exact S5.out
      clear hK K
      try simp only [Act.put, List.setIfInBounds_toArray, List.set_cons_zero, List.set_cons_succ]
      refine wpAnyH_take (i := 48) (oi := { dst := some 91, op := Op.binOp BinOp.eql 9 (Operand.tmp 90) (Operand.const (Value.string { data := #[45, 49, 43, 50, 105] })) 9, type := 4, pos := "law.go:91", after := #[{ on := 47, ground := Ground.data }, { on := 45, ground := Ground.guard }], guard := some (45, true) }) (v := ?_) rfl (by kernel_rfl) (by kernel_rfl) (by kernel_rfl) (fun _ _ _ h => h) (Or.inl ⟨by rfl, ?_⟩) (by assumption) ?_
      rotate_left
      · (intro w hSw; (try dsimp only at hSw); go_simp; try with_reducible rfl)
      try simp only [Act.put, List.setIfInBounds_toArray, List.set_cons_zero, List.set_cons_succ]
      refine wpAnyH_take (i := 49) (oi := { dst := some 92, op := Op.pick (Operand.tmp 88) (Operand.tmp 91) (Operand.const (Value.bool false)), type := 4, pos := "law.go:91", after := #[{ on := 45, ground := Ground.data }, { on := 48, ground := Ground.data }], guard := none }) (v := ?_) rfl (by kernel_rfl) (by kernel_rfl) (by kernel_rfl) (fun _ _ _ h => h) (Or.inl ⟨by rfl, ?_⟩) (by assumption) ?_
      rotate_left
      · (intro w hSw; (try dsimp only at hSw); go_simp; try with_reducible rfl)
      try simp only [Act.put, List.setIfInBounds_toArray, List.set_cons_zero, List.set_cons_succ]
      refine wpAnyH_take (i := 50) (oi := { dst := some 93, op := Op.move (Operand.tmp 92), type := 4, pos := "law.go:91", after := #[{ on := 49, ground := Ground.data }, { on := 47, ground := Ground.chain }], guard := none }) (v := ?_) rfl (by kernel_rfl) (by kernel_rfl) (by kernel_rfl) (fun _ _ _ h => h) (Or.inl ⟨by rfl, ?_⟩) (by assumption) ?_
      rotate_left
      · (intro w hSw; (try dsimp only at hSw); go_simp; try with_reducible rfl)
      try simp only [Act.put, List.setIfInBounds_toArray, List.set_cons_zero, List.set_cons_succ]
      refine wpAnyH_take (i := 51) (oi := { dst := some 94, op := Op.load 25 (Operand.tmp 7), type := 25, pos := "law.go:91", after := #[{ on := 50, ground := Ground.guard }], guard := some (50, true) }) (v := ?_) rfl (by kernel_rfl) (by kernel_rfl) (by kernel_rfl) (fun _ _ _ h => h) (Or.inl ⟨by rfl, ?_⟩) (by assumption) ?_
      rotate_left
      · (intro w hSw; (try dsimp only at hSw); (obtain ⟨⟨p1, p2, p3, p4⟩, ⟨q1, q2, q3, q4⟩, ⟨r1, r2, r3, r4⟩, s1, s2, s3, s4⟩ := hSw); go_simp; try with_reducible rfl)
      try simp only [Act.put, List.setIfInBounds_toArray, List.set_cons_zero, List.set_cons_succ]
      refine wpAnyH_ready (rs := [52]) (by kernel_rfl) (by simp) ?_
      refine AllReadyH.cons (o := { dst := some 95, op := Op.call { callee := Callee.value (Operand.func 10), args := #[Operand.tmp 94], argTypes := #[25] }, type := 9, pos := "law.go:91", after := #[{ on := 51, ground := Ground.data }, { on := 50, ground := Ground.chain }, { on := 50, ground := Ground.guard }], guard := some (50, true) }) rfl (fun K hK => ?_) AllReadyH.nil
      go_simp
      refine (Tryd.text0 _).mono ?_
      rintro e V6 ⟨rfl, hb⟩
      have B6 := Lib.hid (B5.out.trans (hb.mono B5.out.size))
      have S6 := Lib.hid (KS.below S5.out hb)
      clear hb
      refine hK.out _ _ ?_ (fun hHeld => ?_)
      · exact S6.out
      clear hK K
      try simp only [Act.put, List.setIfInBounds_toArray, List.set_cons_zero, List.set_cons_succ]
      refine wpAnyH_take (i := 53) (oi := { dst := some 96, op := Op.binOp BinOp.eql 9 (Operand.tmp 95) (Operand.const (Value.string { data := #[45] })) 9, type := 4, pos := "law.go:91", after := #[{ on := 52, ground := Ground.data }, { on := 50, ground := Ground.guard }], guard := some (50, true) }) (v := ?_) rfl (by kernel_rfl) (by kernel_rfl) (by kernel_rfl) (fun _ _ _ h => h) (Or.inl ⟨by rfl, ?_⟩) (by assumption) ?_
      rotate_left
      · (intro w hSw; (try dsimp only at hSw); go_simp; try with_reducible rfl)
      try simp only [Act.put, List.setIfInBounds_toArray, List.set_cons_zero, List.set_cons_succ]
      refine wpAnyH_take (i := 54) (oi := { dst := some 97, op := Op.pick (Operand.tmp 93) (Operand.tmp 96) (Operand.const (Value.bool false)), type := 4, pos := "law.go:91", after := #[{ on := 50, ground := Ground.data }, { on := 53, ground := Ground.data }], guard := none }) (v := ?_) rfl (by kernel_rfl) (by kernel_rfl) (by kernel_rfl) (fun _ _ _ h => h) (Or.inl ⟨by rfl, ?_⟩) (by assumption) ?_
      rotate_left
      · (intro w hSw; (try dsimp only at hSw); go_simp; try with_reducible rfl)
      try simp only [Act.put, List.setIfInBounds_toArray, List.set_cons_zero, List.set_cons_succ]
      refine wpAnyH_take (i := 55) (oi := { dst := some 98, op := Op.move (Operand.tmp 97), type := 4, pos := "law.go:91", after := #[{ on := 54, ground := Ground.data }, { on := 52, ground := Ground.chain }], guard := none }) (v := ?_) rfl (by kernel_rfl) (by kernel_rfl) (by kernel_rfl) (fun _ _ _ h => h) (Or.inl ⟨by rfl, ?_⟩) (by assumption) ?_
      rotate_left
      · (intro w hSw; (try dsimp only at hSw); go_simp; try with_reducible rfl)
      try simp only [Act.put, List.setIfInBounds_toArray, List.set_cons_zero, List.set_cons_succ]
      refine wpAnyH_ready (rs := [56]) (by kernel_rfl) (by simp) ?_
      refine AllReadyH.cons (o := { dst := some 99, op := Op.call { callee := Callee.value (Operand.func 14), args := #[Operand.const (Value.int IntKind.i64 9)], argTypes := #[2] }, type := 25, pos := "law.go:91", after := #[{ on := 55, ground := Ground.chain }, { on := 55, ground := Ground.guard }], guard := some (55, true) }) rfl (fun K hK => ?_) AllReadyH.nil
      go_simp
      refine (Tryd.nnU 9 _).mono ?_
      rintro e V7 ⟨rfl, hb⟩
      have B7 := Lib.hid (B6.out.trans (hb.mono B6.out.size))
      have S7 := Lib.hid (KS.below S6.out hb)
      clear hb
      refine hK.out _ _ ?_ (fun hHeld => ?_)
      · exact S7.out
      clear hK K
      try simp only [Act.put, List.setIfInBounds_toArray, List.set_cons_zero, List.set_cons_succ]
      refine wpAnyH_ready (rs := [57]) (by kernel_rfl) (by simp) ?_
      refine AllReadyH.cons (o := { dst := some 100, op := Op.call { callee := Callee.value (Operand.func 12), args := #[Operand.const (Value.string { data := #[] })], argTypes := #[9] }, type := 25, pos := "law.go:91", after := #[{ on := 56, ground := Ground.chain }, { on := 55, ground := Ground.guard }], guard := some (55, true) }) rfl (fun K hK => ?_) AllReadyH.nil
      go_simp
      refine (Tryd.ssU ⟨#[]⟩ _).mono ?_
      rintro e V8 ⟨rfl, hb⟩
      have B8 := Lib.hid (B7.out.trans (hb.mono B7.out.size))
      have S8 := Lib.hid (KS.below S7.out hb)
      clear hb
      refine hK.out _ _ ?_ (fun hHeld => ?_)
      · exact S8.out
      clear hK K
      try simp only [Act.put, List.setIfInBounds_toArray, List.set_cons_zero, List.set_cons_succ]
      refine wpAnyH_ready (rs := [58]) (by kernel_rfl) (by simp) ?_
      refine AllReadyH.cons (o := { dst := some 101, op := Op.call { callee := Callee.value (Operand.func 13), args := #[Operand.tmp 99, Operand.tmp 100], argTypes := #[25, 25] }, type := 3, pos := "law.go:91", after := #[{ on := 56, ground := Ground.data }, { on := 57, ground := Ground.data }, { on := 57, ground := Ground.chain }, { on := 55, ground := Ground.guard }], guard := some (55, true) }) rfl (fun K hK => ?_) AllReadyH.nil
      go_simp
      refine (Tryd.compareK 9 ⟨#[]⟩ _).mono ?_
      rintro e V9 ⟨rfl, hb⟩
      have B9 := Lib.hid (B8.out.trans (hb.mono B8.out.size))
      have S9 := Lib.hid (KS.below S8.out hb)
      clear hb
      refine hK.out _ _ ?_ (fun hHeld => ?_)
      · exact S9.out
      clear hK K
      try simp only [Act.put, List.setIfInBounds_toArray, List.set_cons_zero, List.set_cons_succ]
      refine wpAnyH_take (i := 59) (oi := { dst := some 102, op := Op.binOp BinOp.eql 3 (Operand.tmp 101) (Operand.const (Value.int IntKind.i64 (-1))) 3, type := 4, pos := "law.go:91", after := #[{ on := 58, ground := Ground.data }, { on := 55, ground := Ground.guard }], guard := some (55, true) }) (v := ?_) rfl (by kernel_rfl) (by kernel_rfl) (by kernel_rfl) (fun _ _ _ h => h) (Or.inl ⟨by rfl, ?_⟩) (by assumption) ?_
      rotate_left
      · (intro w hSw; (try dsimp only at hSw); go_simp; try with_reducible rfl)
      try simp only [Act.put, List.setIfInBounds_toArray, List.set_cons_zero, List.set_cons_succ]
      refine wpAnyH_take (i := 60) (oi := { dst := some 103, op := Op.pick (Operand.tmp 98) (Operand.tmp 102) (Operand.const (Value.bool false)), type := 4, pos := "law.go:91", after := #[{ on := 55, ground := Ground.data }, { on := 59, ground := Ground.data }], guard := none }) (v := ?_) rfl (by kernel_rfl) (by kernel_rfl) (by kernel_rfl) (fun _ _ _ h => h) (Or.inl ⟨by rfl, ?_⟩) (by assumption) ?_
      rotate_left
      · (intro w hSw; (try dsimp only at hSw); go_simp; try with_reducible rfl)
      try simp only [Act.put, List.setIfInBounds_toArray, List.set_cons_zero, List.set_cons_succ]
      refine wpAnyH_take (i := 61) (oi := { dst := some 104, op := Op.move (Operand.tmp 103), type := 4, pos := "law.go:91", after := #[{ on := 60, ground := Ground.data }, { on := 58, ground := Ground.chain }], guard := none }) (v := ?_) rfl (by kernel_rfl) (by kernel_rfl) (by kernel_rfl) (fun _ _ _ h => h) (Or.inl ⟨by rfl, ?_⟩) (by assumption) ?_
      rotate_left
      · (intro w hSw; (try dsimp only at hSw); go_simp; try with_reducible rfl)
      try simp only [Act.put, List.setIfInBounds_toArray, List.set_cons_zero, List.set_cons_succ]
      refine wpAnyH_ready (rs := [62]) (by kernel_rfl) (by simp) ?_
      refine AllReadyH.cons (o := { dst := some 105, op := Op.call { callee := Callee.value (Operand.func 16), args := #[Operand.const (Value.int IntKind.i64 1), Operand.const (Value.int IntKind.i64 9)], argTypes := #[3, 3] }, type := 25, pos := "law.go:91", after := #[{ on := 61, ground := Ground.chain }, { on := 61, ground := Ground.guard }], guard := some (61, true) }) rfl (fun K hK => ?_) AllReadyH.nil
      go_simp
      refine (cvtU 1 _ c1 9 _ c9 _).mono ?_
      rintro e V10 ⟨rfl, hb⟩
      have B10 := Lib.hid (B9.out.trans (hb.mono B9.out.size))
      have S10 := Lib.hid (KS.below S9.out hb)
      clear hb
      refine hK.out _ _ ?_ (fun hHeld => ?_)
      · exact S10.out
      clear hK K
      try simp only [Act.put, List.setIfInBounds_toArray, List.set_cons_zero, List.set_cons_succ]
      refine wpAnyH_ready (rs := [63]) (by kernel_rfl) (by simp) ?_
      refine AllReadyH.cons (o := { dst := some 106, op := Op.call { callee := Callee.value (Operand.func 16), args := #[Operand.const (Value.int IntKind.i64 2), Operand.const (Value.int IntKind.i64 0)], argTypes := #[3, 3] }, type := 25, pos := "law.go:91", after := #[{ on := 62, ground := Ground.chain }, { on := 61, ground := Ground.guard }], guard := some (61, true) }) rfl (fun K hK => ?_) AllReadyH.nil
      go_simp
      refine (cvtU 2 _ c2 0 _ c0' _).mono ?_
      rintro e V11 ⟨rfl, hb⟩
      have B11 := Lib.hid (B10.out.trans (hb.mono B10.out.size))
      have S11 := Lib.hid (KS.below S10.out hb)
      clear hb
      refine hK.out _ _ ?_ (fun hHeld => ?_)
      · exact S11.out
      clear hK K
      try simp only [Act.put, List.setIfInBounds_toArray, List.set_cons_zero, List.set_cons_succ]
      refine wpAnyH_ready (rs := [64]) (by kernel_rfl) (by simp) ?_
      refine AllReadyH.cons (o := { dst := some 107, op := Op.call { callee := Callee.value (Operand.func 13), args := #[Operand.tmp 105, Operand.tmp 106], argTypes := #[25, 25] }, type := 3, pos := "law.go:91", after := #[{ on := 62, ground := Ground.data }, { on := 63, ground := Ground.data }, { on := 63, ground := Ground.chain }, { on := 61, ground := Ground.guard }], guard := some (61, true) }) rfl (fun K hK => ?_) AllReadyH.nil
      go_simp
      refine (Tryd.compareP1 _).mono ?_
      rintro e V12 ⟨rfl, hb⟩
      have B12 := Lib.hid (B11.out.trans (hb.mono B11.out.size))
      have S12 := Lib.hid (KS.below S11.out hb)
      clear hb
      refine hK.out _ _ ?_ (fun hHeld => ?_)
      · exact S12.out
      clear hK K
      try simp only [Act.put, List.setIfInBounds_toArray, List.set_cons_zero, List.set_cons_succ]
      refine wpAnyH_take (i := 65) (oi := { dst := some 108, op := Op.binOp BinOp.eql 3 (Operand.tmp 107) (Operand.const (Value.int IntKind.i64 (-1))) 3, type := 4, pos := "law.go:91", after := #[{ on := 64, ground := Ground.data }, { on := 61, ground := Ground.guard }], guard := some (61, true) }) (v := ?_) rfl (by kernel_rfl) (by kernel_rfl) (by kernel_rfl) (fun _ _ _ h => h) (Or.inl ⟨by rfl, ?_⟩) (by assumption) ?_
      rotate_left
      · (intro w hSw; (try dsimp only at hSw); go_simp; try with_reducible rfl)
      try simp only [Act.put, List.setIfInBounds_toArray, List.set_cons_zero, List.set_cons_succ]
      refine wpAnyH_take (i := 66) (oi := { dst := some 109, op := Op.pick (Operand.tmp 104) (Operand.tmp 108) (Operand.const (Value.bool false)), type := 4, pos := "law.go:91", after := #[{ on := 61, ground := Ground.data }, { on := 65, ground := Ground.data }], guard := none }) (v := ?_) rfl (by kernel_rfl) (by kernel_rfl) (by kernel_rfl) (fun _ _ _ h => h) (Or.inl ⟨by rfl, ?_⟩) (by assumption) ?_
      rotate_left
      · (intro w hSw; (try dsimp only at hSw); go_simp; try with_reducible rfl)
      try simp only [Act.put, List.setIfInBounds_toArray, List.set_cons_zero, List.set_cons_succ]
      refine wpAnyH_take (i := 67) (oi := { dst := some 110, op := Op.move (Operand.tmp 109), type := 4, pos := "law.go:91", after := #[{ on := 66, ground := Ground.data }, { on := 64, ground := Ground.chain }], guard := none }) (v := ?_) rfl (by kernel_rfl) (by kernel_rfl) (by kernel_rfl) (fun _ _ _ h => h) (Or.inl ⟨by rfl, ?_⟩) (by assumption) ?_
      rotate_left
      · (intro w hSw; (try dsimp only at hSw); go_simp; try with_reducible rfl)
      try simp only [Act.put, List.setIfInBounds_toArray, List.set_cons_zero, List.set_cons_succ]
      refine wpAnyH_ready (rs := [68]) (by kernel_rfl) (by simp) ?_
      refine AllReadyH.cons (o := { dst := some 111, op := Op.call { callee := Callee.value (Operand.func 16), args := #[Operand.const (Value.int IntKind.i64 1), Operand.const (Value.int IntKind.i64 9)], argTypes := #[3, 3] }, type := 25, pos := "law.go:91", after := #[{ on := 67, ground := Ground.chain }, { on := 67, ground := Ground.guard }], guard := some (67, true) }) rfl (fun K hK => ?_) AllReadyH.nil
      go_simp
      refine (cvtU 1 _ c1 9 _ c9 _).mono ?_
      rintro e V13 ⟨rfl, hb⟩
      have B13 := Lib.hid (B12.out.trans (hb.mono B12.out.size))
      have S13 := Lib.hid (KS.below S12.out hb)
      clear hb
      refine hK.out _ _ ?_ (fun hHeld => ?_)
      · exact S13.out
      clear hK K
      try simp only [Act.put, List.setIfInBounds_toArray, List.set_cons_zero, List.set_cons_succ]
      refine wpAnyH_ready (rs := [69]) (by kernel_rfl) (by simp) ?_
      refine AllReadyH.cons (o := { dst := some 112, op := Op.call { callee := Callee.value (Operand.func 16), args := #[Operand.const (Value.int IntKind.i64 1), Operand.const (Value.int IntKind.i64 8)], argTypes := #[3, 3] }, type := 25, pos := "law.go:91", after := #[{ on := 68, ground := Ground.chain }, { on := 67, ground := Ground.guard }], guard := some (67, true) }) rfl (fun K hK => ?_) AllReadyH.nil
      go_simp
      refine (cvtU 1 _ c1 8 _ c8 _).mono ?_
      rintro e V14 ⟨rfl, hb⟩
      have B14 := Lib.hid (B13.out.trans (hb.mono B13.out.size))
      have S14 := Lib.hid (KS.below S13.out hb)
      clear hb
      refine hK.out _ _ ?_ (fun hHeld => ?_)
      · exact S14.out
      clear hK K
      try simp only [Act.put, List.setIfInBounds_toArray, List.set_cons_zero, List.set_cons_succ]
      as_aux_lemma =>
        refine wpAnyH_ready (rs := [70]) (by kernel_rfl) (by simp) ?_
        refine AllReadyH.cons (o := { dst := some 113, op := Op.call { callee := Callee.value (Operand.func 13), args := #[Operand.tmp 111, Operand.tmp 112], argTypes := #[25, 25] }, type := 3, pos := "law.go:91", after := #[{ on := 68, ground := Ground.data }, { on := 69, ground := Ground.data }, { on := 69, ground := Ground.chain }, { on := 67, ground := Ground.guard }], guard := some (67, true) }) rfl (fun K hK => ?_) AllReadyH.nil
        go_simp
        refine (Tryd.compareP2 _).mono ?_
        rintro e V15 ⟨rfl, hb⟩
        have B15 := Lib.hid (B14.out.trans (hb.mono B14.out.size))
        have S15 := Lib.hid (KS.below S14.out hb)
        clear hb
        refine hK.out _ _ ?_ (fun hHeld => ?_)
        · exact S15.out
        clear hK K
        try simp only [Act.put, List.setIfInBounds_toArray, List.set_cons_zero, List.set_cons_succ]
        refine wpAnyH_take (i := 71) (oi := { dst := some 114, op := Op.binOp BinOp.eql 3 (Operand.tmp 113) (Operand.const (Value.int IntKind.i64 1)) 3, type := 4, pos := "law.go:91", after := #[{ on := 70, ground := Ground.data }, { on := 67, ground := Ground.guard }], guard := some (67, true) }) (v := ?_) rfl (by kernel_rfl) (by kernel_rfl) (by kernel_rfl) (fun _ _ _ h => h) (Or.inl ⟨by rfl, ?_⟩) (by assumption) ?_
        rotate_left
        · (intro w hSw; (try dsimp only at hSw); go_simp; try with_reducible rfl)
        try simp only [Act.put, List.setIfInBounds_toArray, List.set_cons_zero, List.set_cons_succ]
        refine wpAnyH_take (i := 72) (oi := { dst := some 115, op := Op.pick (Operand.tmp 110) (Operand.tmp 114) (Operand.const (Value.bool false)), type := 4, pos := "law.go:91", after := #[{ on := 67, ground := Ground.data }, { on := 71, ground := Ground.data }], guard := none }) (v := ?_) rfl (by kernel_rfl) (by kernel_rfl) (by kernel_rfl) (fun _ _ _ h => h) (Or.inl ⟨by rfl, ?_⟩) (by assumption) ?_
        rotate_left
        · (intro w hSw; (try dsimp only at hSw); go_simp; try with_reducible rfl)
        try simp only [Act.put, List.setIfInBounds_toArray, List.set_cons_zero, List.set_cons_succ]
        refine wpAnyH_take (i := 73) (oi := { dst := some 116, op := Op.move (Operand.tmp 115), type := 4, pos := "law.go:91", after := #[{ on := 72, ground := Ground.data }, { on := 70, ground := Ground.chain }], guard := none }) (v := ?_) rfl (by kernel_rfl) (by kernel_rfl) (by kernel_rfl) (fun _ _ _ h => h) (Or.inl ⟨by rfl, ?_⟩) (by assumption) ?_
        rotate_left
        · (intro w hSw; (try dsimp only at hSw); go_simp; try with_reducible rfl)
        try simp only [Act.put, List.setIfInBounds_toArray, List.set_cons_zero, List.set_cons_succ]
        refine wpAnyH_take (i := 74) (oi := { dst := some 117, op := Op.load 25 (Operand.tmp 3), type := 25, pos := "law.go:91", after := #[{ on := 73, ground := Ground.guard }], guard := some (73, true) }) (v := ?_) rfl (by kernel_rfl) (by kernel_rfl) (by kernel_rfl) (fun _ _ _ h => h) (Or.inl ⟨by rfl, ?_⟩) (by assumption) ?_
        rotate_left
        · (intro w hSw; (try dsimp only at hSw); (obtain ⟨⟨p1, p2, p3, p4⟩, ⟨q1, q2, q3, q4⟩, ⟨r1, r2, r3, r4⟩, s1, s2, s3, s4⟩ := hSw); go_simp; try with_reducible rfl)
        try simp only [Act.put, List.setIfInBounds_toArray, List.set_cons_zero, List.set_cons_succ]
        refine wpAnyH_ready (rs := [75]) (by kernel_rfl) (by simp) ?_
        refine AllReadyH.cons (o := { dst := some 118, op := Op.call { callee := Callee.value (Operand.func 14), args := #[Operand.const (Value.int IntKind.i64 (-7))], argTypes := #[2] }, type := 25, pos := "law.go:91", after := #[{ on := 73, ground := Ground.chain }, { on := 73, ground := Ground.guard }], guard := some (73, true) }) rfl (fun K hK => ?_) AllReadyH.nil
        go_simp
        refine (Tryd.nnU (-7) _).mono ?_
        rintro e V16 ⟨rfl, hb⟩
        have B16 := Lib.hid (B15.out.trans (hb.mono B15.out.size))
        have S16 := Lib.hid (KS.below S15.out hb)
        clear hb
        refine hK.out _ _ ?_ (fun hHeld => ?_)
        · exact S16.out
        clear hK K
        try simp only [Act.put, List.setIfInBounds_toArray, List.set_cons_zero, List.set_cons_succ]
        refine wpAnyH_ready (rs := [76]) (by kernel_rfl) (by simp) ?_
        refine AllReadyH.cons (o := { dst := some 119, op := Op.call { callee := Callee.value (Operand.func 15), args := #[Operand.tmp 117, Operand.tmp 118], argTypes := #[25, 25] }, type := 4, pos := "law.go:91", after := #[{ on := 74, ground := Ground.data }, { on := 75, ground := Ground.data }, { on := 75, ground := Ground.chain }, { on := 73, ground := Ground.guard }], guard := some (73, true) }) rfl (fun K hK => ?_) AllReadyH.nil
        go_simp
        refine (hSm _).mono ?_
        rintro e V17 ⟨rfl, hb⟩
        have B17 := Lib.hid (B16.out.trans (hb.mono B16.out.size))
        have S17 := Lib.hid (KS.below S16.out hb)
        clear hb
        refine hK.out _ _ ?_ (fun hHeld => ?_)
        · exact S17.out
        clear hK K
        try simp only [Act.put, List.setIfInBounds_toArray, List.set_cons_zero, List.set_cons_succ]
        refine wpAnyH_take (i := 77) (oi := { dst := some 120, op := Op.pick (Operand.tmp 116) (Operand.tmp 119) (Operand.const (Value.bool false)), type := 4, pos := "law.go:91", after := #[{ on := 73, ground := Ground.data }, { on := 76, ground := Ground.data }], guard := none }) (v := ?_) rfl (by kernel_rfl) (by kernel_rfl) (by kernel_rfl) (fun _ _ _ h => h) (Or.inl ⟨by rfl, ?_⟩) (by assumption) ?_
        rotate_left
        · (intro w hSw; (try dsimp only at hSw); go_simp; try with_reducible rfl)
        try simp only [Act.put, List.setIfInBounds_toArray, List.set_cons_zero, List.set_cons_succ]
        refine wpAnyH_take (i := 78) (oi := { dst := some 121, op := Op.move (Operand.tmp 120), type := 4, pos := "law.go:91", after := #[{ on := 77, ground := Ground.data }, { on := 76, ground := Ground.chain }], guard := none }) (v := ?_) rfl (by kernel_rfl) (by kernel_rfl) (by kernel_rfl) (fun _ _ _ h => h) (Or.inl ⟨by rfl, ?_⟩) (by assumption) ?_
        rotate_left
        · (intro w hSw; (try dsimp only at hSw); go_simp; try with_reducible rfl)
        try simp only [Act.put, List.setIfInBounds_toArray, List.set_cons_zero, List.set_cons_succ]
        refine wpAnyH_take (i := 79) (oi := { dst := some 122, op := Op.load 25 (Operand.tmp 7), type := 25, pos := "law.go:91", after := #[{ on := 78, ground := Ground.guard }], guard := some (78, true) }) (v := ?_) rfl (by kernel_rfl) (by kernel_rfl) (by kernel_rfl) (fun _ _ _ h => h) (Or.inl ⟨by rfl, ?_⟩) (by assumption) ?_
        rotate_left
        · (intro w hSw; (try dsimp only at hSw); (obtain ⟨⟨p1, p2, p3, p4⟩, ⟨q1, q2, q3, q4⟩, ⟨r1, r2, r3, r4⟩, s1, s2, s3, s4⟩ := hSw); go_simp; try with_reducible rfl)
        try simp only [Act.put, List.setIfInBounds_toArray, List.set_cons_zero, List.set_cons_succ]
        refine wpAnyH_ready (rs := [80]) (by kernel_rfl) (by simp) ?_
        refine AllReadyH.cons (o := { dst := some 123, op := Op.call { callee := Callee.value (Operand.func 17), args := #[Operand.tmp 122, Operand.const (Value.int IntKind.i64 1)], argTypes := #[25, 3] }, type := 4, pos := "law.go:91", after := #[{ on := 79, ground := Ground.data }, { on := 78, ground := Ground.chain }, { on := 78, ground := Ground.guard }], guard := some (78, true) }) rfl (fun K hK => ?_) AllReadyH.nil
        go_simp
        refine (Tryd.fits0 _).mono ?_
        rintro e V18 ⟨rfl, hb⟩
        have B18 := Lib.hid (B17.out.trans (hb.mono B17.out.size))
        have S18 := Lib.hid (KS.below S17.out hb)
        clear hb
        refine hK.out _ _ ?_ (fun hHeld => ?_)
        · exact S18.out
        clear hK K
        try simp only [Act.put, List.setIfInBounds_toArray, List.set_cons_zero, List.set_cons_succ]
        refine wpAnyH_take (i := 81) (oi := { dst := some 124, op := Op.pick (Operand.tmp 121) (Operand.tmp 123) (Operand.const (Value.bool false)), type := 4, pos := "law.go:91", after := #[{ on := 78, ground := Ground.data }, { on := 80, ground := Ground.data }], guard := none }) (v := ?_) rfl (by kernel_rfl) (by kernel_rfl) (by kernel_rfl) (fun _ _ _ h => h) (Or.inl ⟨by rfl, ?_⟩) (by assumption) ?_
        rotate_left
        · (intro w hSw; (try dsimp only at hSw); go_simp; try with_reducible rfl)
        try simp only [Act.put, List.setIfInBounds_toArray, List.set_cons_zero, List.set_cons_succ]
        refine wpAnyH_take (i := 82) (oi := { dst := some 125, op := Op.move (Operand.tmp 124), type := 4, pos := "law.go:91", after := #[{ on := 81, ground := Ground.data }, { on := 80, ground := Ground.chain }], guard := none }) (v := ?_) rfl (by kernel_rfl) (by kernel_rfl) (by kernel_rfl) (fun _ _ _ h => h) (Or.inl ⟨by rfl, ?_⟩) (by assumption) ?_
        rotate_left
        · (intro w hSw; (try dsimp only at hSw); go_simp; try with_reducible rfl)
        try simp only [Act.put, List.setIfInBounds_toArray, List.set_cons_zero, List.set_cons_succ]
        refine wpAnyH_take (i := 83) (oi := { dst := some 126, op := Op.load 25 (Operand.tmp 1), type := 25, pos := "law.go:91", after := #[{ on := 82, ground := Ground.guard }], guard := some (82, true) }) (v := ?_) rfl (by kernel_rfl) (by kernel_rfl) (by kernel_rfl) (fun _ _ _ h => h) (Or.inl ⟨by rfl, ?_⟩) (by assumption) ?_
        rotate_left
        · (intro w hSw; (try dsimp only at hSw); (obtain ⟨⟨p1, p2, p3, p4⟩, ⟨q1, q2, q3, q4⟩, ⟨r1, r2, r3, r4⟩, s1, s2, s3, s4⟩ := hSw); go_simp; try with_reducible rfl)
        try simp only [Act.put, List.setIfInBounds_toArray, List.set_cons_zero, List.set_cons_succ]
        refine wpAnyH_ready (rs := [84]) (by kernel_rfl) (by simp) ?_
        refine AllReadyH.cons (o := { dst := some 127, op := Op.call { callee := Callee.value (Operand.func 17), args := #[Operand.tmp 126, Operand.const (Value.int IntKind.i64 1)], argTypes := #[25, 3] }, type := 4, pos := "law.go:91", after := #[{ on := 83, ground := Ground.data }, { on := 82, ground := Ground.chain }, { on := 82, ground := Ground.guard }], guard := some (82, true) }) rfl (fun K hK => ?_) AllReadyH.nil
        go_simp
        refine (Tryd.fitsS _ _).mono ?_
        rintro e V19 ⟨rfl, hb⟩
        have B19 := Lib.hid (B18.out.trans (hb.mono B18.out.size))
        have S19 := Lib.hid (KS.below S18.out hb)
        clear hb
        refine hK.out _ _ ?_ (fun hHeld => ?_)
        · exact S19.out
        clear hK K
        try simp only [Act.put, List.setIfInBounds_toArray, List.set_cons_zero, List.set_cons_succ]
        refine wpAnyH_take (i := 85) (oi := { dst := some 128, op := Op.unOp UnOp.not 4 (Operand.tmp 127), type := 4, pos := "law.go:91", after := #[{ on := 84, ground := Ground.data }, { on := 82, ground := Ground.guard }], guard := some (82, true) }) (v := ?_) rfl (by kernel_rfl) (by kernel_rfl) (by kernel_rfl) (fun _ _ _ h => h) (Or.inl ⟨by rfl, ?_⟩) (by assumption) ?_
        rotate_left
        · (intro w hSw; (try dsimp only at hSw); go_simp; try with_reducible rfl)
        try simp only [Act.put, List.setIfInBounds_toArray, List.set_cons_zero, List.set_cons_succ]
        refine wpAnyH_take (i := 86) (oi := { dst := some 129, op := Op.pick (Operand.tmp 125) (Operand.tmp 128) (Operand.const (Value.bool false)), type := 4, pos := "law.go:91", after := #[{ on := 82, ground := Ground.data }, { on := 85, ground := Ground.data }], guard := none }) (v := ?_) rfl (by kernel_rfl) (by kernel_rfl) (by kernel_rfl) (fun _ _ _ h => h) (Or.inl ⟨by rfl, ?_⟩) (by assumption) ?_
        rotate_left
        · (intro w hSw; (try dsimp only at hSw); go_simp; try with_reducible rfl)
        try simp only [Act.put, List.setIfInBounds_toArray, List.set_cons_zero, List.set_cons_succ]
        refine wpAnyH_take (i := 87) (oi := { dst := some 130, op := Op.move (Operand.tmp 129), type := 4, pos := "law.go:91", after := #[{ on := 86, ground := Ground.data }, { on := 84, ground := Ground.chain }], guard := none }) (v := ?_) rfl (by kernel_rfl) (by kernel_rfl) (by kernel_rfl) (fun _ _ _ h => h) (Or.inl ⟨by rfl, ?_⟩) (by assumption) ?_
        rotate_left
        · (intro w hSw; (try dsimp only at hSw); go_simp; try with_reducible rfl)
        try simp only [Act.put, List.setIfInBounds_toArray, List.set_cons_zero, List.set_cons_succ]
        refine wpAnyH_take (i := 88) (oi := { dst := some 131, op := Op.load 25 (Operand.tmp 1), type := 25, pos := "law.go:91", after := #[{ on := 87, ground := Ground.guard }], guard := some (87, true) }) (v := ?_) rfl (by kernel_rfl) (by kernel_rfl) (by kernel_rfl) (fun _ _ _ h => h) (Or.inl ⟨by rfl, ?_⟩) (by assumption) ?_
        rotate_left
        · (intro w hSw; (try dsimp only at hSw); (obtain ⟨⟨p1, p2, p3, p4⟩, ⟨q1, q2, q3, q4⟩, ⟨r1, r2, r3, r4⟩, s1, s2, s3, s4⟩ := hSw); go_simp; try with_reducible rfl)
        try simp only [Act.put, List.setIfInBounds_toArray, List.set_cons_zero, List.set_cons_succ]
        refine wpAnyH_ready (rs := [89]) (by kernel_rfl) (by simp) ?_
        refine AllReadyH.cons (o := { dst := some 132, op := Op.call { callee := Callee.value (Operand.func 11), args := #[Operand.tmp 131], argTypes := #[25] }, type := 26, pos := "law.go:91", after := #[{ on := 88, ground := Ground.data }, { on := 87, ground := Ground.chain }, { on := 87, ground := Ground.guard }], guard := some (87, true) }) rfl (fun K hK => ?_) AllReadyH.nil
        go_simp
        refine (hV1 _).mono ?_
        rintro e V20 ⟨rfl, hb⟩
        have B20 := Lib.hid (B19.out.trans (hb.mono B19.out.size))
        have S20 := Lib.hid (KS.below S19.out hb)
        clear hb
        refine hK.out _ _ ?_ (fun hHeld => ?_)
        · exact S20.out
        clear hK K
        try simp only [Act.put, List.setIfInBounds_toArray, List.set_cons_zero, List.set_cons_succ]
        as_aux_lemma =>
          refine wpAnyH_take (i := 90) (oi := { dst := some 133, op := Op.binOp BinOp.eql 3 (Operand.tmp 132) (Operand.const (Value.int IntKind.i64 0)) 3, type := 4, pos := "law.go:91", after := #[{ on := 89, ground := Ground.data }, { on := 87, ground := Ground.guard }], guard := some (87, true) }) (v := ?_) rfl (by kernel_rfl) (by kernel_rfl) (by kernel_rfl) (fun _ _ _ h => h) (Or.inl ⟨by rfl, ?_⟩) (by assumption) ?_
          rotate_left
          · (intro w hSw; (try dsimp only at hSw); go_simp; try with_reducible rfl)
          try simp only [Act.put, List.setIfInBounds_toArray, List.set_cons_zero, List.set_cons_succ]
          refine wpAnyH_take (i := 91) (oi := { dst := some 134, op := Op.pick (Operand.tmp 130) (Operand.tmp 133) (Operand.const (Value.bool false)), type := 4, pos := "law.go:91", after := #[{ on := 87, ground := Ground.data }, { on := 90, ground := Ground.data }], guard := none }) (v := ?_) rfl (by kernel_rfl) (by kernel_rfl) (by kernel_rfl) (fun _ _ _ h => h) (Or.inl ⟨by rfl, ?_⟩) (by assumption) ?_
          rotate_left
          · (intro w hSw; (try dsimp only at hSw); go_simp; try with_reducible rfl)
          try simp only [Act.put, List.setIfInBounds_toArray, List.set_cons_zero, List.set_cons_succ]
          refine wpAnyH_take (i := 92) (oi := { dst := some 135, op := Op.move (Operand.tmp 134), type := 4, pos := "law.go:91", after := #[{ on := 91, ground := Ground.data }, { on := 89, ground := Ground.chain }], guard := none }) (v := ?_) rfl (by kernel_rfl) (by kernel_rfl) (by kernel_rfl) (fun _ _ _ h => h) (Or.inl ⟨by rfl, ?_⟩) (by assumption) ?_
          rotate_left
          · (intro w hSw; (try dsimp only at hSw); go_simp; try with_reducible rfl)
          try simp only [Act.put, List.setIfInBounds_toArray, List.set_cons_zero, List.set_cons_succ]
          refine wpAnyH_take (i := 93) (oi := { dst := some 136, op := Op.build 25 #[(1, Operand.const (Value.int IntKind.i64 1))], type := 25, pos := "law.go:91", after := #[{ on := 92, ground := Ground.guard }], guard := some (92, true) }) (v := ?_) rfl (by kernel_rfl) (by kernel_rfl) (by kernel_rfl) (fun _ _ _ h => h) (Or.inl ⟨by rfl, ?_⟩) (by assumption) ?_
          rotate_left
          · (intro w hSw; (try dsimp only at hSw); go_simp; try with_reducible rfl)
          try simp only [Act.put, List.setIfInBounds_toArray, List.set_cons_zero, List.set_cons_succ]
          refine wpAnyH_ready (rs := [94]) (by kernel_rfl) (by simp) ?_
          refine AllReadyH.cons (o := { dst := some 137, op := Op.call { callee := Callee.value (Operand.func 11), args := #[Operand.tmp 136], argTypes := #[25] }, type := 26, pos := "law.go:91", after := #[{ on := 93, ground := Ground.data }, { on := 92, ground := Ground.chain }, { on := 92, ground := Ground.guard }], guard := some (92, true) }) rfl (fun K hK => ?_) AllReadyH.nil
          go_simp
          refine (Tryd.vcheckX _).mono ?_
          rintro e V21 ⟨rfl, hb⟩
          have B21 := Lib.hid (B20.out.trans (hb.mono B20.out.size))
          have S21 := Lib.hid (KS.below S20.out hb)
          clear hb
          refine hK.out _ _ ?_ (fun hHeld => ?_)
          · exact S21.out
          clear hK K
          try simp only [Act.put, List.setIfInBounds_toArray, List.set_cons_zero, List.set_cons_succ]
          refine wpAnyH_take (i := 95) (oi := { dst := some 138, op := Op.binOp BinOp.eql 3 (Operand.tmp 137) (Operand.const (Value.int IntKind.i64 1)) 3, type := 4, pos := "law.go:91", after := #[{ on := 94, ground := Ground.data }, { on := 92, ground := Ground.guard }], guard := some (92, true) }) (v := ?_) rfl (by kernel_rfl) (by kernel_rfl) (by kernel_rfl) (fun _ _ _ h => h) (Or.inl ⟨by rfl, ?_⟩) (by assumption) ?_
          rotate_left
          · (intro w hSw; (try dsimp only at hSw); go_simp; try with_reducible rfl)
          try simp only [Act.put, List.setIfInBounds_toArray, List.set_cons_zero, List.set_cons_succ]
          refine wpAnyH_take (i := 96) (oi := { dst := some 139, op := Op.pick (Operand.tmp 135) (Operand.tmp 138) (Operand.const (Value.bool false)), type := 4, pos := "law.go:91", after := #[{ on := 92, ground := Ground.data }, { on := 95, ground := Ground.data }], guard := none }) (v := ?_) rfl (by kernel_rfl) (by kernel_rfl) (by kernel_rfl) (fun _ _ _ h => h) (Or.inl ⟨by rfl, ?_⟩) (by assumption) ?_
          rotate_left
          · (intro w hSw; (try dsimp only at hSw); go_simp; try with_reducible rfl)
          try simp only [Act.put, List.setIfInBounds_toArray, List.set_cons_zero, List.set_cons_succ]
          refine wpAnyH_take (i := 97) (oi := { dst := some 140, op := Op.move (Operand.tmp 139), type := 4, pos := "law.go:91", after := #[{ on := 96, ground := Ground.data }, { on := 94, ground := Ground.chain }], guard := none }) (v := ?_) rfl (by kernel_rfl) (by kernel_rfl) (by kernel_rfl) (fun _ _ _ h => h) (Or.inl ⟨by rfl, ?_⟩) (by assumption) ?_
          rotate_left
          · (intro w hSw; (try dsimp only at hSw); go_simp; try with_reducible rfl)
          try simp only [Act.put, List.setIfInBounds_toArray, List.set_cons_zero, List.set_cons_succ]
          refine wpAnyH_take (i := 98) (oi := { dst := some 141, op := Op.build 25 #[(0, Operand.const (Value.int IntKind.i64 4))], type := 25, pos := "law.go:91", after := #[{ on := 97, ground := Ground.guard }], guard := some (97, true) }) (v := ?_) rfl (by kernel_rfl) (by kernel_rfl) (by kernel_rfl) (fun _ _ _ h => h) (Or.inl ⟨by rfl, ?_⟩) (by assumption) ?_
          rotate_left
          · (intro w hSw; (try dsimp only at hSw); go_simp; try with_reducible rfl)
          try simp only [Act.put, List.setIfInBounds_toArray, List.set_cons_zero, List.set_cons_succ]
          refine wpAnyH_ready (rs := [99]) (by kernel_rfl) (by simp) ?_
          refine AllReadyH.cons (o := { dst := some 142, op := Op.call { callee := Callee.value (Operand.func 11), args := #[Operand.tmp 141], argTypes := #[25] }, type := 26, pos := "law.go:91", after := #[{ on := 98, ground := Ground.data }, { on := 97, ground := Ground.chain }, { on := 97, ground := Ground.guard }], guard := some (97, true) }) rfl (fun K hK => ?_) AllReadyH.nil
          go_simp
          refine (Tryd.vcheckK _).mono ?_
          rintro e V22 ⟨rfl, hb⟩
          have B22 := Lib.hid (B21.out.trans (hb.mono B21.out.size))
          have S22 := Lib.hid (KS.below S21.out hb)
          clear hb
          refine hK.out _ _ ?_ (fun hHeld => ?_)
          · exact S22.out
          clear hK K
          try simp only [Act.put, List.setIfInBounds_toArray, List.set_cons_zero, List.set_cons_succ]
          refine wpAnyH_take (i := 100) (oi := { dst := some 143, op := Op.binOp BinOp.eql 3 (Operand.tmp 142) (Operand.const (Value.int IntKind.i64 6)) 3, type := 4, pos := "law.go:91", after := #[{ on := 99, ground := Ground.data }, { on := 97, ground := Ground.guard }], guard := some (97, true) }) (v := ?_) rfl (by kernel_rfl) (by kernel_rfl) (by kernel_rfl) (fun _ _ _ h => h) (Or.inl ⟨by rfl, ?_⟩) (by assumption) ?_
          rotate_left
          · (intro w hSw; (try dsimp only at hSw); go_simp; try with_reducible rfl)
          try simp only [Act.put, List.setIfInBounds_toArray, List.set_cons_zero, List.set_cons_succ]
          refine wpAnyH_take (i := 101) (oi := { dst := some 144, op := Op.pick (Operand.tmp 140) (Operand.tmp 143) (Operand.const (Value.bool false)), type := 4, pos := "law.go:91", after := #[{ on := 97, ground := Ground.data }, { on := 100, ground := Ground.data }], guard := none }) (v := ?_) rfl (by kernel_rfl) (by kernel_rfl) (by kernel_rfl) (fun _ _ _ h => h) (Or.inl ⟨by rfl, ?_⟩) (by assumption) ?_
          rotate_left
          · (intro w hSw; (try dsimp only at hSw); go_simp; try with_reducible rfl)
          try simp only [Act.put, List.setIfInBounds_toArray, List.set_cons_zero, List.set_cons_succ]
          refine wpAnyH_take (i := 102) (oi := { dst := some 0, op := Op.assign (Operand.tmp 144), type := 4, pos := "law.go:91", after := ([{ on := 101, ground := Ground.data }, { on := 99, ground := Ground.chain }, { on := 0, ground := Ground.phase }, { on := 1, ground := Ground.phase }, { on := 2, ground := Ground.phase }, { on := 3, ground := Ground.phase }, { on := 4, ground := Ground.phase }, { on := 5, ground := Ground.phase }, { on := 6, ground := Ground.phase }, { on := 7, ground := Ground.phase }, { on := 8, ground := Ground.phase }, { on := 9, ground := Ground.phase }, { on := 10, ground := Ground.phase }, { on := 11, ground := Ground.phase }, { on := 12, ground := Ground.phase }, { on := 13, ground := Ground.phase }, { on := 14, ground := Ground.phase }, { on := 15, ground := Ground.phase }, { on := 16, ground := Ground.phase }, { on := 17, ground := Ground.phase }, { on := 18, ground := Ground.phase }, { on := 19, ground := Ground.phase }, { on := 20, ground := Ground.phase }, { on := 21, ground := Ground.phase }, { on := 22, ground := Ground.phase }, { on := 23, ground := Ground.phase }, { on := 24, ground := Ground.phase }, { on := 25, ground := Ground.phase }, { on := 26, ground := Ground.phase }, { on := 27, ground := Ground.phase }, { on := 28, ground := Ground.phase }, { on := 29, ground := Ground.phase }, { on := 30, ground := Ground.phase }, { on := 31, ground := Ground.phase }, { on := 32, ground := Ground.phase }, { on := 33, ground := Ground.phase }, { on := 34, ground := Ground.phase }, { on := 35, ground := Ground.phase }, { on := 36, ground := Ground.phase }, { on := 37, ground := Ground.phase }, { on := 38, ground := Ground.phase }, { on := 39, ground := Ground.phase }, { on := 40, ground := Ground.phase }, { on := 41, ground := Ground.phase }, { on := 42, ground := Ground.phase }, { on := 43, ground := Ground.phase }, { on := 44, ground := Ground.phase }, { on := 45, ground := Ground.phase }, { on := 46, ground := Ground.phase }, { on := 47, ground := Ground.phase }, { on := 48, ground := Ground.phase }, { on := 49, ground := Ground.phase }].append [{ on := 50, ground := Ground.phase }, { on := 51, ground := Ground.phase }, { on := 52, ground := Ground.phase }, { on := 53, ground := Ground.phase }, { on := 54, ground := Ground.phase }, { on := 55, ground := Ground.phase }, { on := 56, ground := Ground.phase }, { on := 57, ground := Ground.phase }, { on := 58, ground := Ground.phase }, { on := 59, ground := Ground.phase }, { on := 60, ground := Ground.phase }, { on := 61, ground := Ground.phase }, { on := 62, ground := Ground.phase }, { on := 63, ground := Ground.phase }, { on := 64, ground := Ground.phase }, { on := 65, ground := Ground.phase }, { on := 66, ground := Ground.phase }, { on := 67, ground := Ground.phase }, { on := 68, ground := Ground.phase }, { on := 69, ground := Ground.phase }, { on := 70, ground := Ground.phase }, { on := 71, ground := Ground.phase }, { on := 72, ground := Ground.phase }, { on := 73, ground := Ground.phase }, { on := 74, ground := Ground.phase }, { on := 75, ground := Ground.phase }, { on := 76, ground := Ground.phase }, { on := 77, ground := Ground.phase }, { on := 78, ground := Ground.phase }, { on := 79, ground := Ground.phase }, { on := 80, ground := Ground.phase }, { on := 81, ground := Ground.phase }, { on := 82, ground := Ground.phase }, { on := 83, ground := Ground.phase }, { on := 84, ground := Ground.phase }, { on := 85, ground := Ground.phase }, { on := 86, ground := Ground.phase }, { on := 87, ground := Ground.phase }, { on := 88, ground := Ground.phase }, { on := 89, ground := Ground.phase }, { on := 90, ground := Ground.phase }, { on := 91, ground := Ground.phase }, { on := 92, ground := Ground.phase }, { on := 93, ground := Ground.phase }, { on := 94, ground := Ground.phase }, { on := 95, ground := Ground.phase }, { on := 96, ground := Ground.phase }, { on := 97, ground := Ground.phase }, { on := 98, ground := Ground.phase }, { on := 99, ground := Ground.phase }, { on := 100, ground := Ground.phase }, { on := 101, ground := Ground.phase }]).toArray, guard := none }) (v := ?_) rfl (by kernel_rfl) (by kernel_rfl) (by kernel_rfl) (fun _ _ _ h => h) (Or.inl ⟨by rfl, ?_⟩) (by assumption) ?_
          rotate_left
          · (intro w hSw; (try dsimp only at hSw); go_simp; try with_reducible rfl)
          try simp only [Act.put, List.setIfInBounds_toArray, List.set_cons_zero, List.set_cons_succ]
          refine wpAnyH_done (by kernel_rfl) ?_ _
          refine NoPanic.normal ?_
          clear hHeld
          go_wp2_with fail
          go_ret
          exact ⟨rfl, B22.out⟩
end Go.Proofs.YtlgabpcjhhihdaaDoor
end
