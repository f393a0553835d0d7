/-
  Texts of a proof over the translated program: proved evaluators and walks, part 8 of 13.
-/
import Derived.Test.YtlgabpcjhhihdaaDoorPartR7
import Derived.Below
import Derived.Deep.Cut
import Derived.Deep.RegionHeld3
import Derived.Deep.RegionWith
import Derived.Handy
import Derived.IntWalk
import Derived.Laws.Cells
import Derived.Laws.Concat
import Derived.Laws.CopyRow
import Derived.Laws.Externs
import Derived.Laws.Strings
import Derived.Laws.Strings2
import Derived.Laws.Strings3
import Derived.Laws.StructEq
import Derived.Lib.AppendIntMem
import Derived.Lib.Builder
import Derived.Lib.Hide
import Derived.Lib.ItoaLen
import Derived.LoopTactic
import Derived.Outline
import Derived.OwnWalk
import Derived.ProofKit
import Derived.Scope
import Derived.ScopeJumps
import Derived.Shelf.LaysC
import Derived.Shelf.LaysM
import Derived.Shelf.Small.Strs
import Derived.Shelf.Small.Wraps
import Derived.Shelf.Strconv.Clone
import Derived.Shelf.Strconv.ErrVarParseInt
import Derived.Shelf.Strconv.Itoa0
import Derived.Shelf.Strconv.Itoa1
import Derived.Shelf.Strconv.Itoa2
import Derived.Shelf.Strconv.Itoa3
import Derived.Shelf.Strconv.Itoa4
import Derived.Shelf.Strconv.Lower
import Derived.Shelf.Strconv.ParseInt10
import Derived.Shelf.Strconv.ParseInt10All
import Derived.Shelf.Strconv.ParseInt10At16
import Derived.Shelf.Strconv.ParseInt10At32
import Derived.Shelf.Strconv.ParseInt10At64
import Derived.Shelf.Strconv.ParseInt10At8
import Derived.Shelf.Strconv.ParseIntEmpty
import Derived.Shelf.Strconv.ParseIntPublic10
import Derived.Shelf.Strconv.ParseUint10
import Derived.Shelf.Strconv.ParseUint10Any
import Derived.Shelf.Strconv.ParseUint10At
import Derived.Shelf.Strconv.ParseUint10Empty
import Derived.Shelf.Strconv.ParseUint10b16
import Derived.Shelf.Strconv.ParseUint10b32
import Derived.Shelf.Strconv.ParseUint10b64
import Derived.Shelf.Strconv.ParseUint10b8
import Derived.Shelf.Strconv.ParseUintEmpty
import Derived.Shelf.Strconv.RangeError
import Derived.Shelf.Strconv.SyntaxError
import Derived.Shelf.Strconv.ToError
import Derived.Shelf.Strconv.ToErrorRange
import Derived.Shelf.Strings.Builder1
import Derived.Shelf.Strings.BuilderF
import Derived.Shelf.Strings.BuilderK
import Derived.Shelf.Strings.Prefix
import Derived.Shelf.Strings.Search1
import Derived.Test.YtlgabpcjhhihdaaDoorProg
import Derived.WalkKit
import Derived.WalkMore
import Derived.WalkSpells
set_option linter.unusedVariables false
set_option linter.unusedSimpArgs false
set_option linter.unusedSectionVars false
set_option linter.unnecessarySimpa false
section
namespace Go.Proofs.YtlgabpcjhhihdaaDoor
open Go.RowKit Go.NW
set_option maxRecDepth 100000
theorem Tryd.parseNull (w : World) : Calls Tryd.prog 7 #[.string (bs [45])] w fun e w' => e = .returned (.tuple #[v0, .int .i64 0]) ∧ Below w.heap.size w w' := by
  have hsc := storeC
  have hB' := bs_list
  go_enter Tryd.func7, Tryd.ntmps7
  go_wp2
  refine wp_scope_fwd 0 ?_
  go_wp2_with fail
  refine (Fwd.other (by intro l; simp)).2 ?_
  refine bodyPost_ret (v := .tuple #[v0, .int .i64 0]) (by simp [results, Tryd.results7, go_sem, v0]) rfl ⟨rfl, ?_⟩
  exact (Below.refl _ w).alloc (Nat.le_refl _) _
theorem pbytes_v4 (l : List UInt8) : ∃ CS, (pbytes l).1 = .agg CS ∧ V4 CS := by
  unfold pbytes
  split
  · split
    · exact ⟨_, rfl, v4 _ _ _ _ _⟩
    · split
      · exact ⟨_, rfl, v4 _ _ _ _ _⟩
      · exact ⟨_, rfl, v4 _ _ _ _ _⟩
  · exact ⟨_, rfl, v4 _ _ _ _ _⟩
theorem Tryd.parseB (l : List UInt8) (hl : l.length < 2 ^ 39) (w : World) : Calls Tryd.prog 7 #[.string (bs (34 :: l))] w fun e w' => e = .returned (.tuple #[(pbytes l).1, .int .i64 (pbytes l).2]) ∧ Below w.heap.size w w' := by
  have hsc := storeC
  have hB' := bs_list
  have hp := Tryd.pre (34 :: l) 34 (by simp; omega)
  rw [show ((34 :: l).head? == some (34 : UInt8)) = true by simp] at hp
  have hc := Tryd.parseBytes l (by omega) (w.alloc (.cells #[.int .i64 0, .int .i64 0, .string ⟨#[]⟩, .complex .f64 0 0] 25))
  have HC := Lib.hid hc
  obtain ⟨CS, hCS, hsz4, ho⟩ := pbytes_v4 l
  have hsz : CS.size = zero4.size := hsz4
  have HSZ := Lib.hid hsz
  have HSZ4 := Lib.hid hsz4
  have HO := Lib.hid ho
  generalize pbytes l = R at HC hCS ⊢
  obtain ⟨R1, R2⟩ := R
  obtain rfl : R1 = .agg CS := hCS
  have h1 : (bs (34 :: l)).size = l.length + 1 := by rw [bs_size]; rfl
  have h4 : (bs (34 :: l)).extract 1 (l.length + 1) = bs l := by rw [bs_ext]; simp
  have H4 := Lib.hid h4
  clear hsz hsz4 ho hc h4
  go_enter Tryd.func7, Tryd.ntmps7
  go_wp2
  refine wp_scope_fwd 1 ?_
  go_wp2_with (go_at_call 18; refine (hp _).mono ?_; rintro e w1 ⟨rfl, rfl⟩)
  go_step3
  refine ⟨_, rfl, ?_⟩
  go_wp2_with fail
  rw [H4.out]
  refine (HC.out).mono ?_
  rintro e w1 ⟨rfl, hb⟩
  have HB := Lib.hid (((Below.refl _ w).alloc (Nat.le_refl _) (.cells #[.int .i64 0, .int .i64 0, .string ⟨#[]⟩, .complex .f64 0 0] 25)).trans (hb.mono (by simp)))
  have hcell : w1.heap[w.heap.size]? = some (.cells #[.int .i64 0, .int .i64 0, .string ⟨#[]⟩, .complex .f64 0 0] 25 (0, 0)) := (hb.block _ (by simp)).trans (heap_alloc_new _ _)
  clear hb
  go_wp2_with (refine nw_store_row _ rfl 25 (.tmp 2) (.tmp 18) rfl w.heap.size 25 CS zero4 rfl rfl hcell HSZ.out (Tryd.size25 _ HSZ4.out) HO.out ?_)
  refine (Fwd.other (by intro l; simp)).2 ?_
  refine bodyPost_ret (v := .tuple #[.agg CS, .int .i64 R2]) (nw_results (show Tryd.f7.results = #[.cell 2 25, .tmp 3] from rfl) _ _ w.heap.size 25 CS _ rfl (setRow_heap' _ _ _ _ _ hcell) (Tryd.size25 _ HSZ4.out) Tryd.st25) rfl ⟨rfl, below_setRow HB.out (Nat.le_refl _) _⟩
theorem Tryd.textS (l : List UInt8) (hl : l.length < 2 ^ 39) (w : World) : Calls Tryd.prog 10 #[vS (bs l)] w fun e w' => e = .returned (.string (bs (34 :: hexL l))) ∧ Below w.heap.size w w' := by
  have HH := Lib.hid (Tryd.hex l (by omega) (w.alloc (.cells #[.int .i64 2, .int .i64 0, .string (bs l), .complex .f64 0 0] 25)))
  have hs : (⟨#[34]⟩ : ByteArray) ++ bs (hexL l) = bs (34 :: hexL l) := by
    apply ByteArray.ext
    simp [bs]
  have hadd : ∀ w, (Op.stringOp .add ⟨#[34]⟩ (bs (hexL l))).run Tryd.prog w = .ok (.string (bs (34 :: hexL l))) w := fun w => by
    rw [run_string_add_sum w _ _ (by rw [bs_size, hexL_len]; show 1 + _ ≤ _; omega), hs]
  generalize bs (34 :: hexL l) = R at hadd ⊢
  generalize bs (hexL l) = X at HH hadd
  clear hs
  unfold vS
  go_enter Tryd.func10, Tryd.ntmps10
  go_wp2
  refine wp_scope_fwd 1 ?_
  go_wp2_with fail
  go_step3
  refine ⟨_, rfl, ?_⟩
  go_wp2_with fail
  refine (HH.out).mono ?_
  rintro e w1 ⟨rfl, hb⟩
  have HB := Lib.hid (((Below.refl _ w).alloc (Nat.le_refl _) (.cells #[.int .i64 2, .int .i64 0, .string (bs l), .complex .f64 0 0] 25)).trans (hb.mono (by simp)))
  clear hb
  go_wp2_with fail
  refine (Fwd.other (by intro l; simp)).2 ?_
  go_ret
  exact ⟨rfl, HB.out⟩
end Go.Proofs.YtlgabpcjhhihdaaDoor
end

section
namespace Go.Proofs.YtlgabpcjhhihdaaDoor
open Go.RowKit Go.NW
set_option maxRecDepth 100000
def pFirst (l : List UInt8) (a : Nat) : Nat := if l[a]? = some 45 then a + 1 else a
def pDig (l : List UInt8) (a : Nat) : List UInt8 := (l.drop (pFirst l a)).takeWhile dig
def pEnd (l : List UInt8) (a : Nat) : Nat := if pDig l a = [] ∨ ((pDig l a).head? = some 48 ∧ (1 < (pDig l a).length ∨ a < pFirst l a)) then a else pFirst l a + (pDig l a).length
theorem tw_in (l : List UInt8) : ∀ j, j < (l.takeWhile dig).length → ∃ y, l[j]? = some y ∧ dig y = true := by
  induction l with
  | nil => intro j h; simp at h
  | cons c r ih =>
    intro j h
    by_cases hc : dig c = true
    · rw [List.takeWhile_cons, if_pos hc] at h
      cases j with
      | zero => exact ⟨c, rfl, hc⟩
      | succ j => simpa using ih j (by simpa using h)
    · rw [List.takeWhile_cons, if_neg hc] at h
      simp at h
theorem tw_out (l : List UInt8) : ∀ y, l[(l.takeWhile dig).length]? = some y → dig y = false := by
  induction l with
  | nil => intro y h; simp at h
  | cons c r ih =>
    intro y h
    by_cases hc : dig c = true
    · rw [List.takeWhile_cons, if_pos hc] at h
      exact ih y (by simpa using h)
    · rw [List.takeWhile_cons, if_neg hc] at h
      simp at h
      subst h
      simpa using hc
theorem tw_take (l : List UInt8) : l.take (l.takeWhile dig).length = l.takeWhile dig := by
  induction l with
  | nil => rfl
  | cons c r ih =>
    by_cases hc : dig c = true
    · rw [List.takeWhile_cons, if_pos hc, List.length_cons, List.take_succ_cons, ih]
    · rw [List.takeWhile_cons, if_neg hc]
      rfl
structure PE (l : List UInt8) (a m f D : Nat) (d : List UInt8) : Prop where
  hm : m = l.length
  hf : f = pFirst l a
  hd : d = pDig l a
  hD : D = d.length
  f1 : ∀ j, j < D → ∃ y, l[f + j]? = some y ∧ dig y = true
  f2 : ∀ y, l[f + D]? = some y → dig y = false
  fm : f + D ≤ m
  ext : (bs l).extract f (f + D) = bs d
theorem PE.mk' (l : List UInt8) (a : Nat) (ha : a ≤ l.length) : PE l a l.length (pFirst l a) (pDig l a).length (pDig l a) := by
  have hfl : pFirst l a ≤ l.length := by
    unfold pFirst
    split
    · rename_i h
      have := (List.getElem?_eq_some_iff.1 h).1
      omega
    · exact ha
  refine ⟨rfl, rfl, rfl, rfl, fun j hj => ?_, fun y hy => ?_, ?_, ?_⟩
  · obtain ⟨y, h1, h2⟩ := tw_in (l.drop (pFirst l a)) j hj
    rw [List.getElem?_drop] at h1
    exact ⟨y, h1, h2⟩
  · refine tw_out (l.drop (pFirst l a)) y ?_
    rw [List.getElem?_drop]
    exact hy
  · have h := (List.takeWhile_sublist dig (l := l.drop (pFirst l a))).length_le
    rw [List.length_drop] at h
    show pFirst l a + ((l.drop (pFirst l a)).takeWhile dig).length ≤ _
    omega
  · rw [bs_ext]
    congr 1
    rw [show pFirst l a + (pDig l a).length - pFirst l a = (pDig l a).length by omega]
    exact tw_take _
set_option maxHeartbeats 4000000 in
theorem Tryd.partEnd (l : List UInt8) (a : Nat) (ha : a ≤ l.length) (hl : l.length < 2 ^ 40) (w : World) : Calls Tryd.prog 55 #[.string (bs l), .int .i64 (a : Int)] w fun e w' => e = .returned (.int .i64 (pEnd l a : Int)) ∧ w = w' := by
  have hpe := PE.mk' l a ha
  generalize hf : pFirst l a = f at hpe
  generalize hd : pDig l a = d at hpe
  generalize hD : d.length = D at hpe
  obtain ⟨m, hm⟩ : ∃ m, m = l.length := ⟨_, rfl⟩
  have hS : (bs l).size = m := by rw [bs_size, hm]
  rw [← hm] at hpe ha hl
  have HPE := Lib.hid hpe
  have hG := bs_get
  have hB := bs_list
  clear hpe hd hD
  by_cases ham : a < m
  · obtain ⟨y0, hy0⟩ : ∃ y, l[a]? = some y := ⟨_, List.getElem?_eq_getElem (by rw [← hm]; exact ham)⟩
    obtain ⟨hal, hy0'⟩ := List.getElem?_eq_some_iff.1 hy0
    have s1 : decide ((a : Int) < m) = true := decide_eq_true (by omega)
    have s2 : decide (a < m) = true := decide_eq_true ham
    by_cases h45 : y0 = 45
    · have hff : f = a + 1 := by rw [← hf]; unfold pFirst; rw [hy0, if_pos (by rw [h45])]
      have v1 : ((y0.toNat : Int) == 45) = true := by rw [h45]; rfl
      have v2 : decide ((y0.toNat : Int) = 45) = true := by rw [h45]; rfl
      have hfa : (a : Int) + 1 = (f : Int) := by omega
      have hfa1 : a < f := by omega
      have hfa2 : decide ((f : Int) > a) = true := decide_eq_true (by omega)
      clear hf hff hy0 h45 hm
      go_enter Tryd.func55, Tryd.ntmps55
      go_wp2_with fail
      clear hfa v1 v2 s1 s2
      go_loopw [5] (fun t5 W => ∃ j : Nat, W = w ∧ j ≤ D ∧ t5 = .int .i64 ((f + j : Nat) : Int)) (fun t5 _ => (f + D) - (intO t5).toNat)
      case atStart => exact ⟨0, rfl, Nat.zero_le _, by simp⟩
      case round =>
        obtain ⟨j, rfl, hj, rfl⟩ := hrel
        obtain ⟨i, hi⟩ : ∃ i, i = f + j := ⟨_, rfl⟩
        rw [← hi]
        have him : i ≤ m := by have := HPE.out.fm; omega
        by_cases hjd : j < D
        · obtain ⟨y, hy, hdy⟩ := HPE.out.f1 j hjd
          rw [← hi] at hy
          obtain ⟨hil, hy'⟩ := List.getElem?_eq_some_iff.1 hy
          have hlt : i < m := by rw [HPE.out.hm]; exact hil
          have t1 : decide ((i : Int) < m) = true := decide_eq_true (by omega)
          have t2 : decide (i < m) = true := decide_eq_true hlt
          have hdy2 : 48 ≤ y.toNat ∧ y.toNat ≤ 57 := by simpa [dig] using hdy
          have u1 : decide ((y.toNat : Int) ≥ 48) = true := decide_eq_true (by omega)
          have u2 : decide ((y.toNat : Int) ≤ 57) = true := decide_eq_true (by omega)
          have HI := Lib.hid hi
          clear hi hy hdy hdy2
          go_wp2_with fail
          exact ⟨⟨j + 1, by first | rfl | trivial, by omega, by congr 1; have := HI.out; omega⟩, by have := HI.out; have := HPE.out.fm; simp [intO]; omega⟩
        · have hjD : j = D := by omega
          have HI : Hid (i = f + D) := Lib.hid (by rw [hi, hjD])
          clear hi hjD hjd hj
          by_cases him2 : i < m
          · obtain ⟨y, hy⟩ : ∃ y, l[i]? = some y := ⟨_, List.getElem?_eq_getElem (by rw [← HPE.out.hm]; exact him2)⟩
            have hnd := HPE.out.f2 y (by rw [← HI.out]; exact hy)
            obtain ⟨hil, hy'⟩ := List.getElem?_eq_some_iff.1 hy
            have t1 : decide ((i : Int) < m) = true := decide_eq_true (by omega)
            have t2 : decide (i < m) = true := decide_eq_true him2
            clear hy
            by_cases h48 : 48 ≤ y.toNat
            · have u1 : decide ((y.toNat : Int) ≥ 48) = true := decide_eq_true (by omega)
              have u2 : decide ((y.toNat : Int) ≤ 57) = false := decide_eq_false (by
                intro h
                have h' : dig y = true := by simp [dig]; omega
                rw [h'] at hnd
                cases hnd)
              clear hnd
              have hex := HPE.out.ext
              rw [← HI.out] at hex
              have hfi : f ≤ i := by have := HI.out; omega
              have hfiI : (f : Int) ≤ i := by omega
              have hf0I : (0 : Int) ≤ f := by omega
              have himI : (i : Int) ≤ m := by omega
              have hEnd : pEnd l a = if d = [] ∨ (d.head? = some 48 ∧ (1 < d.length ∨ a < f)) then a else f + d.length := by
                unfold pEnd
                rw [← HPE.out.hd, ← HPE.out.hf]
              have HEnd := Lib.hid hEnd
              have HDL := Lib.hid HPE.out.hD
              clear hEnd
              cases d with
              | nil =>
                have HR : Hid (pEnd l a = a) := Lib.hid (by rw [HEnd.out, if_pos (.inl rfl)])
                go_wp2_with fail
                rw [HR.out]
                go_ret
                exact ⟨rfl, rfl⟩
              | cons c r =>
                obtain ⟨K, hK⟩ : ∃ K, K = r.length + 1 := ⟨_, rfl⟩
                have hsz : (bs (c :: r)).size = K := by rw [bs_size, hK]; rfl
                have hDK : D = K := by rw [HDL.out, hK]; rfl
                have hK0 : 0 < K := by omega
                have hK0I : (0 : Int) < K := by omega
                have HK := Lib.hid hK
                have HDK := Lib.hid hDK
                clear hK hDK
                by_cases hc : c = 48
                · have hc1 : ((c.toNat : Int) == 48) = true := by rw [hc]; rfl
                  have hc2 : decide ((c.toNat : Int) = 48) = true := by rw [hc]; rfl
                  by_cases hk : 1 < K
                  · have k1 : decide ((K : Int) > 1) = true := decide_eq_true (by omega)
                    have HR : Hid (pEnd l a = a) := Lib.hid (by rw [HEnd.out, if_pos (.inr ⟨by rw [hc]; rfl, .inl (by have := HK.out; show 1 < r.length + 1; omega)⟩)])
                    clear hc hk
                    go_wp2_with fail
                    rw [HR.out]
                    go_ret
                    exact ⟨rfl, rfl⟩
                  · have k1 : decide ((K : Int) > 1) = false := decide_eq_false (by omega)
                    have HR : Hid (pEnd l a = a) := Lib.hid (by rw [HEnd.out, if_pos (.inr ⟨by rw [hc]; rfl, .inr hfa1⟩)])
                    clear hc hk
                    go_wp2_with fail
                    rw [HR.out]
                    go_ret
                    exact ⟨rfl, rfl⟩
                · have hcn : c.toNat ≠ 48 := fun h => hc (UInt8.toNat_inj.1 h)
                  have hc1 : ((c.toNat : Int) == 48) = false := by simp; omega
                  have hc2 : decide ((c.toNat : Int) = 48) = false := decide_eq_false (by omega)
                  have HR : Hid (pEnd l a = i) := Lib.hid (by
                    rw [HEnd.out, if_neg (by
                      rintro (h | ⟨h, _⟩)
                      · cases h
                      · have h' : c = 48 := by simpa using h
                        exact hc h'), HI.out, HDK.out, HK.out]
                    rfl)
                  clear hc hcn
                  go_wp2_with fail
                  rw [HR.out]
                  go_ret
                  exact ⟨rfl, rfl⟩
            · have u1 : decide ((y.toNat : Int) ≥ 48) = false := decide_eq_false (by omega)
              clear hnd
              have hex := HPE.out.ext
              rw [← HI.out] at hex
              have hfi : f ≤ i := by have := HI.out; omega
              have hfiI : (f : Int) ≤ i := by omega
              have hf0I : (0 : Int) ≤ f := by omega
              have himI : (i : Int) ≤ m := by omega
              have hEnd : pEnd l a = if d = [] ∨ (d.head? = some 48 ∧ (1 < d.length ∨ a < f)) then a else f + d.length := by
                unfold pEnd
                rw [← HPE.out.hd, ← HPE.out.hf]
              have HEnd := Lib.hid hEnd
              have HDL := Lib.hid HPE.out.hD
              clear hEnd
              cases d with
              | nil =>
                have HR : Hid (pEnd l a = a) := Lib.hid (by rw [HEnd.out, if_pos (.inl rfl)])
                go_wp2_with fail
                rw [HR.out]
                go_ret
                exact ⟨rfl, rfl⟩
              | cons c r =>
                obtain ⟨K, hK⟩ : ∃ K, K = r.length + 1 := ⟨_, rfl⟩
                have hsz : (bs (c :: r)).size = K := by rw [bs_size, hK]; rfl
                have hDK : D = K := by rw [HDL.out, hK]; rfl
                have hK0 : 0 < K := by omega
                have hK0I : (0 : Int) < K := by omega
                have HK := Lib.hid hK
                have HDK := Lib.hid hDK
                clear hK hDK
                by_cases hc : c = 48
                · have hc1 : ((c.toNat : Int) == 48) = true := by rw [hc]; rfl
                  have hc2 : decide ((c.toNat : Int) = 48) = true := by rw [hc]; rfl
                  by_cases hk : 1 < K
                  · have k1 : decide ((K : Int) > 1) = true := decide_eq_true (by omega)
                    have HR : Hid (pEnd l a = a) := Lib.hid (by rw [HEnd.out, if_pos (.inr ⟨by rw [hc]; rfl, .inl (by have := HK.out; show 1 < r.length + 1; omega)⟩)])
                    clear hc hk
                    go_wp2_with fail
                    rw [HR.out]
                    go_ret
                    exact ⟨rfl, rfl⟩
                  · have k1 : decide ((K : Int) > 1) = false := decide_eq_false (by omega)
                    have HR : Hid (pEnd l a = a) := Lib.hid (by rw [HEnd.out, if_pos (.inr ⟨by rw [hc]; rfl, .inr hfa1⟩)])
                    clear hc hk
                    go_wp2_with fail
                    rw [HR.out]
                    go_ret
                    exact ⟨rfl, rfl⟩
                · have hcn : c.toNat ≠ 48 := fun h => hc (UInt8.toNat_inj.1 h)
                  have hc1 : ((c.toNat : Int) == 48) = false := by simp; omega
                  have hc2 : decide ((c.toNat : Int) = 48) = false := decide_eq_false (by omega)
                  have HR : Hid (pEnd l a = i) := Lib.hid (by
                    rw [HEnd.out, if_neg (by
                      rintro (h | ⟨h, _⟩)
                      · cases h
                      · have h' : c = 48 := by simpa using h
                        exact hc h'), HI.out, HDK.out, HK.out]
                    rfl)
                  clear hc hcn
                  go_wp2_with fail
                  rw [HR.out]
                  go_ret
                  exact ⟨rfl, rfl⟩
          · have hie : i = m := by omega
            have t1 : decide ((i : Int) < m) = false := decide_eq_false (by omega)
            have t2 : decide (i < m) = false := decide_eq_false (by omega)
            have hex := HPE.out.ext
            rw [← HI.out] at hex
            have hfi : f ≤ i := by have := HI.out; omega
            have hfiI : (f : Int) ≤ i := by omega
            have hf0I : (0 : Int) ≤ f := by omega
            have himI : (i : Int) ≤ m := by omega
            have hEnd : pEnd l a = if d = [] ∨ (d.head? = some 48 ∧ (1 < d.length ∨ a < f)) then a else f + d.length := by
              unfold pEnd
              rw [← HPE.out.hd, ← HPE.out.hf]
            have HEnd := Lib.hid hEnd
            have HDL := Lib.hid HPE.out.hD
            clear hEnd
            clear hie
            cases d with
            | nil =>
              have HR : Hid (pEnd l a = a) := Lib.hid (by rw [HEnd.out, if_pos (.inl rfl)])
              go_wp2_with fail
              rw [HR.out]
              go_ret
              exact ⟨rfl, rfl⟩
            | cons c r =>
              obtain ⟨K, hK⟩ : ∃ K, K = r.length + 1 := ⟨_, rfl⟩
              have hsz : (bs (c :: r)).size = K := by rw [bs_size, hK]; rfl
              have hDK : D = K := by rw [HDL.out, hK]; rfl
              have hK0 : 0 < K := by omega
              have hK0I : (0 : Int) < K := by omega
              have HK := Lib.hid hK
              have HDK := Lib.hid hDK
              clear hK hDK
              by_cases hc : c = 48
              · have hc1 : ((c.toNat : Int) == 48) = true := by rw [hc]; rfl
                have hc2 : decide ((c.toNat : Int) = 48) = true := by rw [hc]; rfl
                by_cases hk : 1 < K
                · have k1 : decide ((K : Int) > 1) = true := decide_eq_true (by omega)
                  have HR : Hid (pEnd l a = a) := Lib.hid (by rw [HEnd.out, if_pos (.inr ⟨by rw [hc]; rfl, .inl (by have := HK.out; show 1 < r.length + 1; omega)⟩)])
                  clear hc hk
                  go_wp2_with fail
                  rw [HR.out]
                  go_ret
                  exact ⟨rfl, rfl⟩
                · have k1 : decide ((K : Int) > 1) = false := decide_eq_false (by omega)
                  have HR : Hid (pEnd l a = a) := Lib.hid (by rw [HEnd.out, if_pos (.inr ⟨by rw [hc]; rfl, .inr hfa1⟩)])
                  clear hc hk
                  go_wp2_with fail
                  rw [HR.out]
                  go_ret
                  exact ⟨rfl, rfl⟩
              · have hcn : c.toNat ≠ 48 := fun h => hc (UInt8.toNat_inj.1 h)
                have hc1 : ((c.toNat : Int) == 48) = false := by simp; omega
                have hc2 : decide ((c.toNat : Int) = 48) = false := decide_eq_false (by omega)
                have HR : Hid (pEnd l a = i) := Lib.hid (by
                  rw [HEnd.out, if_neg (by
                    rintro (h | ⟨h, _⟩)
                    · cases h
                    · have h' : c = 48 := by simpa using h
                      exact hc h'), HI.out, HDK.out, HK.out]
                  rfl)
                clear hc hcn
                go_wp2_with fail
                rw [HR.out]
                go_ret
                exact ⟨rfl, rfl⟩
    · have hff : f = a := by rw [← hf]; unfold pFirst; rw [hy0, if_neg (by simpa using h45)]
      have hn45 : y0.toNat ≠ 45 := fun h => h45 (UInt8.toNat_inj.1 h)
      have v1 : ((y0.toNat : Int) == 45) = false := by simp; omega
      have v2 : decide ((y0.toNat : Int) = 45) = false := decide_eq_false (by omega)
      have hfa2 : decide ((a : Int) > a) = false := decide_eq_false (by omega)
      have hff' := hff.symm
      clear hff
      subst hff'
      clear hf hy0 h45 hm hn45
      go_enter Tryd.func55, Tryd.ntmps55
      go_wp2_with fail
      clear v1 v2 s1 s2
      go_loopw [5] (fun t5 W => ∃ j : Nat, W = w ∧ j ≤ D ∧ t5 = .int .i64 ((a + j : Nat) : Int)) (fun t5 _ => (a + D) - (intO t5).toNat)
      case atStart => exact ⟨0, rfl, Nat.zero_le _, by simp⟩
      case round =>
        obtain ⟨j, rfl, hj, rfl⟩ := hrel
        obtain ⟨i, hi⟩ : ∃ i, i = a + j := ⟨_, rfl⟩
        rw [← hi]
        have him : i ≤ m := by have := HPE.out.fm; omega
        by_cases hjd : j < D
        · obtain ⟨y, hy, hdy⟩ := HPE.out.f1 j hjd
          rw [← hi] at hy
          obtain ⟨hil, hy'⟩ := List.getElem?_eq_some_iff.1 hy
          have hlt : i < m := by rw [HPE.out.hm]; exact hil
          have t1 : decide ((i : Int) < m) = true := decide_eq_true (by omega)
          have t2 : decide (i < m) = true := decide_eq_true hlt
          have hdy2 : 48 ≤ y.toNat ∧ y.toNat ≤ 57 := by simpa [dig] using hdy
          have u1 : decide ((y.toNat : Int) ≥ 48) = true := decide_eq_true (by omega)
          have u2 : decide ((y.toNat : Int) ≤ 57) = true := decide_eq_true (by omega)
          have HI := Lib.hid hi
          clear hi hy hdy hdy2
          go_wp2_with fail
          exact ⟨⟨j + 1, by first | rfl | trivial, by omega, by congr 1; have := HI.out; omega⟩, by have := HI.out; have := HPE.out.fm; simp [intO]; omega⟩
        · have hjD : j = D := by omega
          have HI : Hid (i = a + D) := Lib.hid (by rw [hi, hjD])
          clear hi hjD hjd hj
          by_cases him2 : i < m
          · obtain ⟨y, hy⟩ : ∃ y, l[i]? = some y := ⟨_, List.getElem?_eq_getElem (by rw [← HPE.out.hm]; exact him2)⟩
            have hnd := HPE.out.f2 y (by rw [← HI.out]; exact hy)
            obtain ⟨hil, hy'⟩ := List.getElem?_eq_some_iff.1 hy
            have t1 : decide ((i : Int) < m) = true := decide_eq_true (by omega)
            have t2 : decide (i < m) = true := decide_eq_true him2
            clear hy
            by_cases h48 : 48 ≤ y.toNat
            · have u1 : decide ((y.toNat : Int) ≥ 48) = true := decide_eq_true (by omega)
              have u2 : decide ((y.toNat : Int) ≤ 57) = false := decide_eq_false (by
                intro h
                have h' : dig y = true := by simp [dig]; omega
                rw [h'] at hnd
                cases hnd)
              clear hnd
              have hex := HPE.out.ext
              rw [← HI.out] at hex
              have hfi : a ≤ i := by have := HI.out; omega
              have hfiI : (a : Int) ≤ i := by omega
              have hf0I : (0 : Int) ≤ a := by omega
              have himI : (i : Int) ≤ m := by omega
              have hEnd : pEnd l a = if d = [] ∨ (d.head? = some 48 ∧ (1 < d.length ∨ a < a)) then a else a + d.length := by
                unfold pEnd
                rw [← HPE.out.hd, ← HPE.out.hf]
              have HEnd := Lib.hid hEnd
              have HDL := Lib.hid HPE.out.hD
              clear hEnd
              cases d with
              | nil =>
                have HR : Hid (pEnd l a = a) := Lib.hid (by rw [HEnd.out, if_pos (.inl rfl)])
                go_wp2_with fail
                rw [HR.out]
                go_ret
                exact ⟨rfl, rfl⟩
              | cons c r =>
                obtain ⟨K, hK⟩ : ∃ K, K = r.length + 1 := ⟨_, rfl⟩
                have hsz : (bs (c :: r)).size = K := by rw [bs_size, hK]; rfl
                have hDK : D = K := by rw [HDL.out, hK]; rfl
                have hK0 : 0 < K := by omega
                have hK0I : (0 : Int) < K := by omega
                have HK := Lib.hid hK
                have HDK := Lib.hid hDK
                clear hK hDK
                by_cases hc : c = 48
                · have hc1 : ((c.toNat : Int) == 48) = true := by rw [hc]; rfl
                  have hc2 : decide ((c.toNat : Int) = 48) = true := by rw [hc]; rfl
                  by_cases hk : 1 < K
                  · have k1 : decide ((K : Int) > 1) = true := decide_eq_true (by omega)
                    have HR : Hid (pEnd l a = a) := Lib.hid (by rw [HEnd.out, if_pos (.inr ⟨by rw [hc]; rfl, .inl (by have := HK.out; show 1 < r.length + 1; omega)⟩)])
                    clear hc hk
                    go_wp2_with fail
                    rw [HR.out]
                    go_ret
                    exact ⟨rfl, rfl⟩
                  · have k1 : decide ((K : Int) > 1) = false := decide_eq_false (by omega)
                    have HR : Hid (pEnd l a = i) := Lib.hid (by
                      rw [HEnd.out, if_neg (by
                        rintro (h | ⟨_, h | h⟩)
                        · cases h
                        · have := HK.out; change 1 < r.length + 1 at h; omega
                        · omega), HI.out, HDK.out, HK.out]
                      rfl)
                    clear hc hk
                    go_wp2_with fail
                    rw [HR.out]
                    go_ret
                    exact ⟨rfl, rfl⟩
                · have hcn : c.toNat ≠ 48 := fun h => hc (UInt8.toNat_inj.1 h)
                  have hc1 : ((c.toNat : Int) == 48) = false := by simp; omega
                  have hc2 : decide ((c.toNat : Int) = 48) = false := decide_eq_false (by omega)
                  have HR : Hid (pEnd l a = i) := Lib.hid (by
                    rw [HEnd.out, if_neg (by
                      rintro (h | ⟨h, _⟩)
                      · cases h
                      · have h' : c = 48 := by simpa using h
                        exact hc h'), HI.out, HDK.out, HK.out]
                    rfl)
                  clear hc hcn
                  go_wp2_with fail
                  rw [HR.out]
                  go_ret
                  exact ⟨rfl, rfl⟩
            · have u1 : decide ((y.toNat : Int) ≥ 48) = false := decide_eq_false (by omega)
              clear hnd
              have hex := HPE.out.ext
              rw [← HI.out] at hex
              have hfi : a ≤ i := by have := HI.out; omega
              have hfiI : (a : Int) ≤ i := by omega
              have hf0I : (0 : Int) ≤ a := by omega
              have himI : (i : Int) ≤ m := by omega
              have hEnd : pEnd l a = if d = [] ∨ (d.head? = some 48 ∧ (1 < d.length ∨ a < a)) then a else a + d.length := by
                unfold pEnd
                rw [← HPE.out.hd, ← HPE.out.hf]
              have HEnd := Lib.hid hEnd
              have HDL := Lib.hid HPE.out.hD
              clear hEnd
              cases d with
              | nil =>
                have HR : Hid (pEnd l a = a) := Lib.hid (by rw [HEnd.out, if_pos (.inl rfl)])
                go_wp2_with fail
                rw [HR.out]
                go_ret
                exact ⟨rfl, rfl⟩
              | cons c r =>
                obtain ⟨K, hK⟩ : ∃ K, K = r.length + 1 := ⟨_, rfl⟩
                have hsz : (bs (c :: r)).size = K := by rw [bs_size, hK]; rfl
                have hDK : D = K := by rw [HDL.out, hK]; rfl
                have hK0 : 0 < K := by omega
                have hK0I : (0 : Int) < K := by omega
                have HK := Lib.hid hK
                have HDK := Lib.hid hDK
                clear hK hDK
                by_cases hc : c = 48
                · have hc1 : ((c.toNat : Int) == 48) = true := by rw [hc]; rfl
                  have hc2 : decide ((c.toNat : Int) = 48) = true := by rw [hc]; rfl
                  by_cases hk : 1 < K
                  · have k1 : decide ((K : Int) > 1) = true := decide_eq_true (by omega)
                    have HR : Hid (pEnd l a = a) := Lib.hid (by rw [HEnd.out, if_pos (.inr ⟨by rw [hc]; rfl, .inl (by have := HK.out; show 1 < r.length + 1; omega)⟩)])
                    clear hc hk
                    go_wp2_with fail
                    rw [HR.out]
                    go_ret
                    exact ⟨rfl, rfl⟩
                  · have k1 : decide ((K : Int) > 1) = false := decide_eq_false (by omega)
                    have HR : Hid (pEnd l a = i) := Lib.hid (by
                      rw [HEnd.out, if_neg (by
                        rintro (h | ⟨_, h | h⟩)
                        · cases h
                        · have := HK.out; change 1 < r.length + 1 at h; omega
                        · omega), HI.out, HDK.out, HK.out]
                      rfl)
                    clear hc hk
                    go_wp2_with fail
                    rw [HR.out]
                    go_ret
                    exact ⟨rfl, rfl⟩
                · have hcn : c.toNat ≠ 48 := fun h => hc (UInt8.toNat_inj.1 h)
                  have hc1 : ((c.toNat : Int) == 48) = false := by simp; omega
                  have hc2 : decide ((c.toNat : Int) = 48) = false := decide_eq_false (by omega)
                  have HR : Hid (pEnd l a = i) := Lib.hid (by
                    rw [HEnd.out, if_neg (by
                      rintro (h | ⟨h, _⟩)
                      · cases h
                      · have h' : c = 48 := by simpa using h
                        exact hc h'), HI.out, HDK.out, HK.out]
                    rfl)
                  clear hc hcn
                  go_wp2_with fail
                  rw [HR.out]
                  go_ret
                  exact ⟨rfl, rfl⟩
          · have hie : i = m := by omega
            have t1 : decide ((i : Int) < m) = false := decide_eq_false (by omega)
            have t2 : decide (i < m) = false := decide_eq_false (by omega)
            have hex := HPE.out.ext
            rw [← HI.out] at hex
            have hfi : a ≤ i := by have := HI.out; omega
            have hfiI : (a : Int) ≤ i := by omega
            have hf0I : (0 : Int) ≤ a := by omega
            have himI : (i : Int) ≤ m := by omega
            have hEnd : pEnd l a = if d = [] ∨ (d.head? = some 48 ∧ (1 < d.length ∨ a < a)) then a else a + d.length := by
              unfold pEnd
              rw [← HPE.out.hd, ← HPE.out.hf]
            have HEnd := Lib.hid hEnd
            have HDL := Lib.hid HPE.out.hD
            clear hEnd
            clear hie
            cases d with
            | nil =>
              have HR : Hid (pEnd l a = a) := Lib.hid (by rw [HEnd.out, if_pos (.inl rfl)])
              go_wp2_with fail
              rw [HR.out]
              go_ret
              exact ⟨rfl, rfl⟩
            | cons c r =>
              obtain ⟨K, hK⟩ : ∃ K, K = r.length + 1 := ⟨_, rfl⟩
              have hsz : (bs (c :: r)).size = K := by rw [bs_size, hK]; rfl
              have hDK : D = K := by rw [HDL.out, hK]; rfl
              have hK0 : 0 < K := by omega
              have hK0I : (0 : Int) < K := by omega
              have HK := Lib.hid hK
              have HDK := Lib.hid hDK
              clear hK hDK
              by_cases hc : c = 48
              · have hc1 : ((c.toNat : Int) == 48) = true := by rw [hc]; rfl
                have hc2 : decide ((c.toNat : Int) = 48) = true := by rw [hc]; rfl
                by_cases hk : 1 < K
                · have k1 : decide ((K : Int) > 1) = true := decide_eq_true (by omega)
                  have HR : Hid (pEnd l a = a) := Lib.hid (by rw [HEnd.out, if_pos (.inr ⟨by rw [hc]; rfl, .inl (by have := HK.out; show 1 < r.length + 1; omega)⟩)])
                  clear hc hk
                  go_wp2_with fail
                  rw [HR.out]
                  go_ret
                  exact ⟨rfl, rfl⟩
                · have k1 : decide ((K : Int) > 1) = false := decide_eq_false (by omega)
                  have HR : Hid (pEnd l a = i) := Lib.hid (by
                    rw [HEnd.out, if_neg (by
                      rintro (h | ⟨_, h | h⟩)
                      · cases h
                      · have := HK.out; change 1 < r.length + 1 at h; omega
                      · omega), HI.out, HDK.out, HK.out]
                    rfl)
                  clear hc hk
                  go_wp2_with fail
                  rw [HR.out]
                  go_ret
                  exact ⟨rfl, rfl⟩
              · have hcn : c.toNat ≠ 48 := fun h => hc (UInt8.toNat_inj.1 h)
                have hc1 : ((c.toNat : Int) == 48) = false := by simp; omega
                have hc2 : decide ((c.toNat : Int) = 48) = false := decide_eq_false (by omega)
                have HR : Hid (pEnd l a = i) := Lib.hid (by
                  rw [HEnd.out, if_neg (by
                    rintro (h | ⟨h, _⟩)
                    · cases h
                    · have h' : c = 48 := by simpa using h
                      exact hc h'), HI.out, HDK.out, HK.out]
                  rfl)
                clear hc hcn
                go_wp2_with fail
                rw [HR.out]
                go_ret
                exact ⟨rfl, rfl⟩
  · have s1 : decide ((a : Int) < m) = false := decide_eq_false (by omega)
    have s2 : decide (a < m) = false := decide_eq_false ham
    have hff : f = a := by
      rw [← hf]; unfold pFirst
      rw [List.getElem?_eq_none (by omega), if_neg (by simp)]
    have hfa2 : decide ((a : Int) > a) = false := decide_eq_false (by omega)
    have hff' := hff.symm
    clear hff
    subst hff'
    clear hf hm
    go_enter Tryd.func55, Tryd.ntmps55
    go_wp2_with fail
    clear s1 s2
    go_loopw [5] (fun t5 W => ∃ j : Nat, W = w ∧ j ≤ D ∧ t5 = .int .i64 ((a + j : Nat) : Int)) (fun t5 _ => (a + D) - (intO t5).toNat)
    case atStart => exact ⟨0, rfl, Nat.zero_le _, by simp⟩
    case round =>
      obtain ⟨j, rfl, hj, rfl⟩ := hrel
      obtain ⟨i, hi⟩ : ∃ i, i = a + j := ⟨_, rfl⟩
      rw [← hi]
      have him : i ≤ m := by have := HPE.out.fm; omega
      by_cases hjd : j < D
      · obtain ⟨y, hy, hdy⟩ := HPE.out.f1 j hjd
        rw [← hi] at hy
        obtain ⟨hil, hy'⟩ := List.getElem?_eq_some_iff.1 hy
        have hlt : i < m := by rw [HPE.out.hm]; exact hil
        have t1 : decide ((i : Int) < m) = true := decide_eq_true (by omega)
        have t2 : decide (i < m) = true := decide_eq_true hlt
        have hdy2 : 48 ≤ y.toNat ∧ y.toNat ≤ 57 := by simpa [dig] using hdy
        have u1 : decide ((y.toNat : Int) ≥ 48) = true := decide_eq_true (by omega)
        have u2 : decide ((y.toNat : Int) ≤ 57) = true := decide_eq_true (by omega)
        have HI := Lib.hid hi
        clear hi hy hdy hdy2
        go_wp2_with fail
        exact ⟨⟨j + 1, by first | rfl | trivial, by omega, by congr 1; have := HI.out; omega⟩, by have := HI.out; have := HPE.out.fm; simp [intO]; omega⟩
      · have hjD : j = D := by omega
        have HI : Hid (i = a + D) := Lib.hid (by rw [hi, hjD])
        clear hi hjD hjd hj
        by_cases him2 : i < m
        · obtain ⟨y, hy⟩ : ∃ y, l[i]? = some y := ⟨_, List.getElem?_eq_getElem (by rw [← HPE.out.hm]; exact him2)⟩
          have hnd := HPE.out.f2 y (by rw [← HI.out]; exact hy)
          obtain ⟨hil, hy'⟩ := List.getElem?_eq_some_iff.1 hy
          have t1 : decide ((i : Int) < m) = true := decide_eq_true (by omega)
          have t2 : decide (i < m) = true := decide_eq_true him2
          clear hy
          by_cases h48 : 48 ≤ y.toNat
          · have u1 : decide ((y.toNat : Int) ≥ 48) = true := decide_eq_true (by omega)
            have u2 : decide ((y.toNat : Int) ≤ 57) = false := decide_eq_false (by
              intro h
              have h' : dig y = true := by simp [dig]; omega
              rw [h'] at hnd
              cases hnd)
            clear hnd
            have hex := HPE.out.ext
            rw [← HI.out] at hex
            have hfi : a ≤ i := by have := HI.out; omega
            have hfiI : (a : Int) ≤ i := by omega
            have hf0I : (0 : Int) ≤ a := by omega
            have himI : (i : Int) ≤ m := by omega
            have hEnd : pEnd l a = if d = [] ∨ (d.head? = some 48 ∧ (1 < d.length ∨ a < a)) then a else a + d.length := by
              unfold pEnd
              rw [← HPE.out.hd, ← HPE.out.hf]
            have HEnd := Lib.hid hEnd
            have HDL := Lib.hid HPE.out.hD
            clear hEnd
            cases d with
            | nil =>
              have HR : Hid (pEnd l a = a) := Lib.hid (by rw [HEnd.out, if_pos (.inl rfl)])
              go_wp2_with fail
              rw [HR.out]
              go_ret
              exact ⟨rfl, rfl⟩
            | cons c r =>
              obtain ⟨K, hK⟩ : ∃ K, K = r.length + 1 := ⟨_, rfl⟩
              have hsz : (bs (c :: r)).size = K := by rw [bs_size, hK]; rfl
              have hDK : D = K := by rw [HDL.out, hK]; rfl
              have hK0 : 0 < K := by omega
              have hK0I : (0 : Int) < K := by omega
              have HK := Lib.hid hK
              have HDK := Lib.hid hDK
              clear hK hDK
              by_cases hc : c = 48
              · have hc1 : ((c.toNat : Int) == 48) = true := by rw [hc]; rfl
                have hc2 : decide ((c.toNat : Int) = 48) = true := by rw [hc]; rfl
                by_cases hk : 1 < K
                · have k1 : decide ((K : Int) > 1) = true := decide_eq_true (by omega)
                  have HR : Hid (pEnd l a = a) := Lib.hid (by rw [HEnd.out, if_pos (.inr ⟨by rw [hc]; rfl, .inl (by have := HK.out; show 1 < r.length + 1; omega)⟩)])
                  clear hc hk
                  go_wp2_with fail
                  rw [HR.out]
                  go_ret
                  exact ⟨rfl, rfl⟩
                · have k1 : decide ((K : Int) > 1) = false := decide_eq_false (by omega)
                  have HR : Hid (pEnd l a = i) := Lib.hid (by
                    rw [HEnd.out, if_neg (by
                      rintro (h | ⟨_, h | h⟩)
                      · cases h
                      · have := HK.out; change 1 < r.length + 1 at h; omega
                      · omega), HI.out, HDK.out, HK.out]
                    rfl)
                  clear hc hk
                  go_wp2_with fail
                  rw [HR.out]
                  go_ret
                  exact ⟨rfl, rfl⟩
              · have hcn : c.toNat ≠ 48 := fun h => hc (UInt8.toNat_inj.1 h)
                have hc1 : ((c.toNat : Int) == 48) = false := by simp; omega
                have hc2 : decide ((c.toNat : Int) = 48) = false := decide_eq_false (by omega)
                have HR : Hid (pEnd l a = i) := Lib.hid (by
                  rw [HEnd.out, if_neg (by
                    rintro (h | ⟨h, _⟩)
                    · cases h
                    · have h' : c = 48 := by simpa using h
                      exact hc h'), HI.out, HDK.out, HK.out]
                  rfl)
                clear hc hcn
                go_wp2_with fail
                rw [HR.out]
                go_ret
                exact ⟨rfl, rfl⟩
          · have u1 : decide ((y.toNat : Int) ≥ 48) = false := decide_eq_false (by omega)
            clear hnd
            have hex := HPE.out.ext
            rw [← HI.out] at hex
            have hfi : a ≤ i := by have := HI.out; omega
            have hfiI : (a : Int) ≤ i := by omega
            have hf0I : (0 : Int) ≤ a := by omega
            have himI : (i : Int) ≤ m := by omega
            have hEnd : pEnd l a = if d = [] ∨ (d.head? = some 48 ∧ (1 < d.length ∨ a < a)) then a else a + d.length := by
              unfold pEnd
              rw [← HPE.out.hd, ← HPE.out.hf]
            have HEnd := Lib.hid hEnd
            have HDL := Lib.hid HPE.out.hD
            clear hEnd
            cases d with
            | nil =>
              have HR : Hid (pEnd l a = a) := Lib.hid (by rw [HEnd.out, if_pos (.inl rfl)])
              go_wp2_with fail
              rw [HR.out]
              go_ret
              exact ⟨rfl, rfl⟩
            | cons c r =>
              obtain ⟨K, hK⟩ : ∃ K, K = r.length + 1 := ⟨_, rfl⟩
              have hsz : (bs (c :: r)).size = K := by rw [bs_size, hK]; rfl
              have hDK : D = K := by rw [HDL.out, hK]; rfl
              have hK0 : 0 < K := by omega
              have hK0I : (0 : Int) < K := by omega
              have HK := Lib.hid hK
              have HDK := Lib.hid hDK
              clear hK hDK
              by_cases hc : c = 48
              · have hc1 : ((c.toNat : Int) == 48) = true := by rw [hc]; rfl
                have hc2 : decide ((c.toNat : Int) = 48) = true := by rw [hc]; rfl
                by_cases hk : 1 < K
                · have k1 : decide ((K : Int) > 1) = true := decide_eq_true (by omega)
                  have HR : Hid (pEnd l a = a) := Lib.hid (by rw [HEnd.out, if_pos (.inr ⟨by rw [hc]; rfl, .inl (by have := HK.out; show 1 < r.length + 1; omega)⟩)])
                  clear hc hk
                  go_wp2_with fail
                  rw [HR.out]
                  go_ret
                  exact ⟨rfl, rfl⟩
                · have k1 : decide ((K : Int) > 1) = false := decide_eq_false (by omega)
                  have HR : Hid (pEnd l a = i) := Lib.hid (by
                    rw [HEnd.out, if_neg (by
                      rintro (h | ⟨_, h | h⟩)
                      · cases h
                      · have := HK.out; change 1 < r.length + 1 at h; omega
                      · omega), HI.out, HDK.out, HK.out]
                    rfl)
                  clear hc hk
                  go_wp2_with fail
                  rw [HR.out]
                  go_ret
                  exact ⟨rfl, rfl⟩
              · have hcn : c.toNat ≠ 48 := fun h => hc (UInt8.toNat_inj.1 h)
                have hc1 : ((c.toNat : Int) == 48) = false := by simp; omega
                have hc2 : decide ((c.toNat : Int) = 48) = false := decide_eq_false (by omega)
                have HR : Hid (pEnd l a = i) := Lib.hid (by
                  rw [HEnd.out, if_neg (by
                    rintro (h | ⟨h, _⟩)
                    · cases h
                    · have h' : c = 48 := by simpa using h
                      exact hc h'), HI.out, HDK.out, HK.out]
                  rfl)
                clear hc hcn
                go_wp2_with fail
                rw [HR.out]
                go_ret
                exact ⟨rfl, rfl⟩
        · have hie : i = m := by omega
          have t1 : decide ((i : Int) < m) = false := decide_eq_false (by omega)
          have t2 : decide (i < m) = false := decide_eq_false (by omega)
          have hex := HPE.out.ext
          rw [← HI.out] at hex
          have hfi : a ≤ i := by have := HI.out; omega
          have hfiI : (a : Int) ≤ i := by omega
          have hf0I : (0 : Int) ≤ a := by omega
          have himI : (i : Int) ≤ m := by omega
          have hEnd : pEnd l a = if d = [] ∨ (d.head? = some 48 ∧ (1 < d.length ∨ a < a)) then a else a + d.length := by
            unfold pEnd
            rw [← HPE.out.hd, ← HPE.out.hf]
          have HEnd := Lib.hid hEnd
          have HDL := Lib.hid HPE.out.hD
          clear hEnd
          clear hie
          cases d with
          | nil =>
            have HR : Hid (pEnd l a = a) := Lib.hid (by rw [HEnd.out, if_pos (.inl rfl)])
            go_wp2_with fail
            rw [HR.out]
            go_ret
            exact ⟨rfl, rfl⟩
          | cons c r =>
            obtain ⟨K, hK⟩ : ∃ K, K = r.length + 1 := ⟨_, rfl⟩
            have hsz : (bs (c :: r)).size = K := by rw [bs_size, hK]; rfl
            have hDK : D = K := by rw [HDL.out, hK]; rfl
            have hK0 : 0 < K := by omega
            have hK0I : (0 : Int) < K := by omega
            have HK := Lib.hid hK
            have HDK := Lib.hid hDK
            clear hK hDK
            by_cases hc : c = 48
            · have hc1 : ((c.toNat : Int) == 48) = true := by rw [hc]; rfl
              have hc2 : decide ((c.toNat : Int) = 48) = true := by rw [hc]; rfl
              by_cases hk : 1 < K
              · have k1 : decide ((K : Int) > 1) = true := decide_eq_true (by omega)
                have HR : Hid (pEnd l a = a) := Lib.hid (by rw [HEnd.out, if_pos (.inr ⟨by rw [hc]; rfl, .inl (by have := HK.out; show 1 < r.length + 1; omega)⟩)])
                clear hc hk
                go_wp2_with fail
                rw [HR.out]
                go_ret
                exact ⟨rfl, rfl⟩
              · have k1 : decide ((K : Int) > 1) = false := decide_eq_false (by omega)
                have HR : Hid (pEnd l a = i) := Lib.hid (by
                  rw [HEnd.out, if_neg (by
                    rintro (h | ⟨_, h | h⟩)
                    · cases h
                    · have := HK.out; change 1 < r.length + 1 at h; omega
                    · omega), HI.out, HDK.out, HK.out]
                  rfl)
                clear hc hk
                go_wp2_with fail
                rw [HR.out]
                go_ret
                exact ⟨rfl, rfl⟩
            · have hcn : c.toNat ≠ 48 := fun h => hc (UInt8.toNat_inj.1 h)
              have hc1 : ((c.toNat : Int) == 48) = false := by simp; omega
              have hc2 : decide ((c.toNat : Int) = 48) = false := decide_eq_false (by omega)
              have HR : Hid (pEnd l a = i) := Lib.hid (by
                rw [HEnd.out, if_neg (by
                  rintro (h | ⟨h, _⟩)
                  · cases h
                  · have h' : c = 48 := by simpa using h
                    exact hc h'), HI.out, HDK.out, HK.out]
                rfl)
              clear hc hcn
              go_wp2_with fail
              rw [HR.out]
              go_ret
              exact ⟨rfl, rfl⟩
end Go.Proofs.YtlgabpcjhhihdaaDoor
end

section
namespace Go.Proofs.YtlgabpcjhhihdaaDoor
open Go.Lib
def dvF (acc : Nat) (l : List UInt8) : Nat := l.foldl (fun a c => a * 10 + (c.toNat - 48)) acc
theorem dvF_nil (acc : Nat) : dvF acc [] = acc := rfl
theorem dvF_cons (acc : Nat) (c : UInt8) (r : List UInt8) : dvF acc (c :: r) = dvF (acc * 10 + (c.toNat - 48)) r := by unfold dvF; rw [List.foldl_cons]
theorem dvF_snoc (acc : Nat) (l : List UInt8) (c : UInt8) : dvF acc (l ++ [c]) = dvF acc l * 10 + (c.toNat - 48) := by
  unfold dvF
  rw [List.foldl_append]
  rfl
theorem dvF_ge : ∀ (l : List UInt8) (acc : Nat), acc ≤ dvF acc l
  | [], acc => Nat.le_refl _
  | c :: r, acc => by
    rw [dvF_cons]
    have := dvF_ge r (acc * 10 + (c.toNat - 48))
    omega
theorem dvF_app (acc : Nat) (l k : List UInt8) : dvF acc (l ++ k) = dvF (dvF acc l) k := by
  unfold dvF
  rw [List.foldl_append]
theorem dig_iff {c : UInt8} : dig c = true ↔ 48 ≤ c.toNat ∧ c.toNat ≤ 57 := by
  unfold dig
  rw [Bool.and_eq_true, decide_eq_true_iff, decide_eq_true_iff]
theorem pm_ok (M : Nat) (hM : M ≤ 18446744073709551615) : ∀ (l : List UInt8) (acc : Nat), l.all dig = true → acc ≤ M → parseUintM M acc l = if dvF acc l ≤ M then .ok (dvF acc l) else .range
  | [], acc, _, ha => by rw [dvF_nil, if_pos ha]; rfl
  | c :: r, acc, h, ha => by
    rw [List.all_cons, Bool.and_eq_true] at h
    have hc := dig_iff.1 h.1
    rw [parseUintM, if_pos hc, dvF_cons]
    have hge := dvF_ge r (acc * 10 + (c.toNat - 48))
    by_cases h1 : 1844674407370955162 ≤ acc
    · rw [if_pos h1, if_neg (by omega)]
    · rw [if_neg h1]
      by_cases h2 : M < acc * 10 + (c.toNat - 48)
      · rw [if_pos h2, if_neg (by omega)]
      · rw [if_neg h2]
        exact pm_ok M hM r _ h.2 (by omega)
theorem decB_cases {l : List UInt8} (h : decB l = true) : ∃ c r, bare l = c :: r ∧ (c :: r).all dig = true ∧ c ≠ 45 ∧ c ≠ 43 ∧ ((l = c :: r ∧ (c = 48 → r = [])) ∨ (l = 45 :: c :: r ∧ c ≠ 48)) := by
  unfold decB at h
  rcases hb : bare l with _ | ⟨c, r⟩
  · rw [hb] at h; cases h
  · rw [hb] at h
    dsimp only at h
    rw [Bool.and_eq_true] at h
    have hd : dig c = true := by
      have := h.2
      rw [List.all_cons, Bool.and_eq_true] at this
      exact this.1
    refine ⟨c, r, rfl, h.2, dig_no hd rfl, dig_no hd rfl, ?_⟩
    have hz : c = 48 → l = [48] := fun hc => by
      have := h.1
      rw [hc] at this
      by_cases hl : l = [48]
      · exact hl
      · exfalso; revert this; simp [hl]
    unfold bare at hb
    split at hb
    · rename_i h1
      refine .inr ⟨?_, fun hc => ?_⟩
      · match l, h1, hb with
        | x :: t, h1, hb =>
          simp only [List.head?_cons, Option.some.injEq] at h1
          simp only [List.tail_cons] at hb
          rw [h1, hb]
      · rw [hz hc] at h1; cases h1
    · exact .inl ⟨hb, fun hc => by have := hz hc; rw [this] at hb; injection hb with _ h; exact h.symm⟩
theorem decB_mk1 {c : UInt8} {r : List UInt8} (h : (c :: r).all dig = true) (h0 : c = 48 → r = []) : decB (c :: r) = true ∧ bare (c :: r) = c :: r := by
  have hd : dig c = true := by
    rw [List.all_cons, Bool.and_eq_true] at h
    exact h.1
  have hb : bare (c :: r) = c :: r := by
    unfold bare
    rw [if_neg (by simpa using dig_no hd (d := 45) rfl)]
  refine ⟨?_, hb⟩
  unfold decB
  rw [hb]
  show (!(c == 48 && !(c :: r == [48])) && (c :: r).all dig) = true
  rw [h, Bool.and_true]
  by_cases hc : c = 48
  · rw [hc, h0 hc]; rfl
  · simp [hc]
theorem decB_mk2 {c : UInt8} {r : List UInt8} (h : (c :: r).all dig = true) (h0 : c ≠ 48) : decB (45 :: c :: r) = true ∧ bare (45 :: c :: r) = c :: r := by
  have hb : bare (45 :: c :: r) = c :: r := by
    unfold bare
    simp
  refine ⟨?_, hb⟩
  unfold decB
  rw [hb]
  show (!(c == 48 && !(45 :: c :: r == [48])) && (c :: r).all dig) = true
  rw [h, Bool.and_true]
  simp [h0]
def pnum (l : List UInt8) : Int × Int := if decB l = true then (if l.head? = some 45 then (if dvF 0 (bare l) ≤ 9223372036854775808 then (-(dvF 0 (bare l) : Int), 0) else (0, 1)) else (if dvF 0 (bare l) < 9223372036854775808 then ((dvF 0 (bare l) : Int), 0) else (0, 1))) else (0, 2)
theorem parse_dv {l : List UInt8} (h : decB l = true) : parseIntB 64 l = if l.head? = some 45 then (if dvF 0 (bare l) ≤ 9223372036854775808 then .ok (-(dvF 0 (bare l) : Int)) else .range) else (if dvF 0 (bare l) < 9223372036854775808 then .ok (dvF 0 (bare l) : Int) else .range) := by
  obtain ⟨c, r, hb, ha, h45, h43, hl⟩ := decB_cases h
  rw [hb]
  have hp := pm_ok (2 ^ 64 - 1) (by omega) (c :: r) 0 ha (by omega)
  generalize dvF 0 (c :: r) = v at hp ⊢
  have n45 : ¬ c.toNat = 45 := fun h => h45 (UInt8.toNat_inj.1 h)
  have n43 : ¬ c.toNat = 43 := fun h => h43 (UInt8.toNat_inj.1 h)
  rcases hl with ⟨hl, _⟩ | ⟨hl, _⟩
  · rw [hl, if_neg (by simpa using h45)]
    unfold parseIntB
    dsimp only
    rw [if_neg (by omega)]
    unfold parseUintB
    rw [if_neg (by simp), hp]
    by_cases h1 : v ≤ 2 ^ 64 - 1
    · rw [if_pos h1]
      dsimp only
      by_cases h2 : 2 ^ (64 - 1) ≤ v
      · rw [if_pos ⟨n45, h2⟩, if_neg (by omega)]
      · rw [if_neg (fun h => h2 h.2), if_neg (fun h => n45 h.1), if_neg n45, if_pos (by omega)]
    · rw [if_neg h1, if_neg (by omega)]
  · rw [hl, if_pos (by simp)]
    unfold parseIntB
    dsimp only
    rw [if_pos (.inr rfl)]
    unfold parseUintB
    rw [if_neg (by simp), hp]
    by_cases h1 : v ≤ 2 ^ 64 - 1
    · rw [if_pos h1]
      dsimp only
      rw [if_neg (fun h => h.1 rfl)]
      by_cases h2 : 2 ^ (64 - 1) < v
      · rw [if_pos ⟨rfl, h2⟩, if_neg (by omega)]
      · rw [if_neg (fun h => h2 h.2), if_pos (show UInt8.toNat 45 = 45 from rfl), if_pos (by omega)]
    · rw [if_neg h1, if_neg (by omega)]
theorem pnum_no {l : List UInt8} (h : decB l = false) : pnum l = (0, 2) := by
  unfold pnum
  rw [if_neg (by simp [h])]
theorem pnum_ok {l : List UInt8} (h : decB l = true) {v : Int} (hp : parseIntB 64 l = .ok v) : pnum l = (v, 0) := by
  rw [parse_dv h] at hp
  unfold pnum
  rw [if_pos h]
  split at hp
  · rename_i h1
    rw [if_pos h1]
    split at hp
    · rename_i h2
      rw [if_pos h2]
      injection hp with hp
      rw [hp]
    · cases hp
  · rename_i h1
    rw [if_neg h1]
    split at hp
    · rename_i h2
      rw [if_pos h2]
      injection hp with hp
      rw [hp]
    · cases hp
theorem pnum_err {l : List UInt8} (h : decB l = true) (hp : ∀ v, parseIntB 64 l ≠ .ok v) : pnum l = (0, 1) := by
  rw [parse_dv h] at hp
  unfold pnum
  rw [if_pos h]
  split at hp
  · rename_i h1
    rw [if_pos h1]
    split at hp
    · exact absurd rfl (hp _)
    · rename_i h2
      rw [if_neg h2]
  · rename_i h1
    rw [if_neg h1]
    split at hp
    · exact absurd rfl (hp _)
    · rename_i h2
      rw [if_neg h2]
theorem pint_pnum (l : List UInt8) : pint l = (if (pnum l).2 = 0 then vN (pnum l).1 else v0, (pnum l).2) := by
  rcases hd : decB l with _ | _
  · rw [pint_no hd, pnum_no hd]
    rfl
  · by_cases hp : ∃ v, parseIntB 64 l = .ok v
    · obtain ⟨v, hp⟩ := hp
      rw [pint_ok hd hp, pnum_ok hd hp]
      rfl
    · have hp' : ∀ v, parseIntB 64 l ≠ .ok v := fun v h => hp ⟨v, h⟩
      rw [pint_err hd hp', pnum_err hd hp']
      rfl
theorem dec_of_digit (c : UInt8) (h : dig c = true) : decDigits (c.toNat - 48) = [c] := by
  have := dig_iff.1 h
  rw [decDigits, dif_pos (by omega), show 48 + (c.toNat - 48) = c.toNat from by omega, UInt8.ofNat_toNat]
theorem dec_dv : ∀ (k : Nat) (c : UInt8) (r : List UInt8), r.length = k → (c :: r).all dig = true → c ≠ 48 → decDigits (dvF 0 (c :: r)) = c :: r := by
  intro k
  induction k with
  | zero =>
    intro c r hr ha h48
    obtain rfl := List.eq_nil_of_length_eq_zero hr
    rw [List.all_cons, Bool.and_eq_true] at ha
    rw [dvF_cons, dvF_nil, Nat.zero_mul, Nat.zero_add]
    exact dec_of_digit c ha.1
  | succ k ih =>
    intro c r hr ha h48
    rcases List.eq_nil_or_concat r with h | ⟨q, d, h⟩
    · rw [h] at hr; cases hr
    · rw [List.concat_eq_append] at h
      subst h
      have hq : q.length = k := by rw [List.length_append] at hr; simpa using hr
      have ha' : (c :: q).all dig = true ∧ dig d = true := by
        rw [← List.cons_append, List.all_append, Bool.and_eq_true] at ha
        refine ⟨ha.1, ?_⟩
        have := ha.2
        rw [List.all_cons, Bool.and_eq_true] at this
        exact this.1
      have hd := dig_iff.1 ha'.2
      have hc := dig_iff.1 (by have := ha'.1; rw [List.all_cons, Bool.and_eq_true] at this; exact this.1)
      have hc48 : c.toNat ≠ 48 := fun h => h48 (UInt8.toNat_inj.1 h)
      have hpos : 1 ≤ dvF 0 (c :: q) := by
        rw [dvF_cons]
        have := dvF_ge q (0 * 10 + (c.toNat - 48))
        omega
      rw [← List.cons_append, dvF_snoc, decDigits, dif_neg (by omega), show (dvF 0 (c :: q) * 10 + (d.toNat - 48)) / 10 = dvF 0 (c :: q) from by omega, ih c q hq ha'.1 h48, show 48 + (dvF 0 (c :: q) * 10 + (d.toNat - 48)) % 10 = d.toNat from by omega, UInt8.ofNat_toNat]
theorem itoa_of_parse {l : List UInt8} (h : decB l = true) {v : Int} (hp : parseIntB 64 l = .ok v) : itoa v = l ∧ -9223372036854775808 ≤ v ∧ v ≤ 9223372036854775807 := by
  rw [parse_dv h] at hp
  obtain ⟨c, r, hb, ha, h45, h43, hl⟩ := decB_cases h
  rw [hb] at hp
  have hc := dig_iff.1 (by have := ha; rw [List.all_cons, Bool.and_eq_true] at this; exact this.1)
  rcases hl with ⟨hl, h0⟩ | ⟨hl, h0⟩
  · rw [hl, if_neg (by simpa using h45)] at hp
    split at hp
    · injection hp with hp
      subst hp
      refine ⟨?_, by omega, by omega⟩
      unfold itoa
      rw [if_neg (by omega), hl, Int.toNat_natCast]
      by_cases hc0 : c = 48
      · rw [hc0, h0 hc0]
        show decDigits 0 = _
        rw [decDigits]
        rfl
      · exact dec_dv _ c r rfl ha hc0
    · cases hp
  · rw [hl, if_pos (by simp)] at hp
    have hc48 : c.toNat ≠ 48 := fun h => h0 (UInt8.toNat_inj.1 h)
    have hpos : 1 ≤ dvF 0 (c :: r) := by
      rw [dvF_cons]
      have := dvF_ge r (0 * 10 + (c.toNat - 48))
      omega
    split at hp
    · injection hp with hp
      subst hp
      refine ⟨?_, by omega, by omega⟩
      unfold itoa
      rw [if_pos (by omega), hl, Int.natAbs_neg, Int.natAbs_natCast, dec_dv _ c r rfl ha h0]
    · cases hp
theorem tw_app (x s : List UInt8) (hx : x.all dig = true) (hs : ∀ y, s.head? = some y → dig y = false) : (x ++ s).takeWhile dig = x := by
  rw [List.takeWhile_append_of_pos (by rw [List.all_eq_true] at hx; exact hx)]
  match s, hs with
  | [], _ => simp
  | y :: t, hs => rw [List.takeWhile_cons, if_neg (by simp [hs y rfl])]; simp
theorem pEnd_of {l X s : List UInt8} {a : Nat} (hl : l.drop a = X ++ s) (hX : decB X = true) (hs : ∀ y, s.head? = some y → dig y = false) : pEnd l a = a + X.length := by
  obtain ⟨c, r, hb, ha, h45, h43, h⟩ := decB_cases hX
  have h0 : l[a]? = (X ++ s)[0]? := by rw [← hl, List.getElem?_drop]; rfl
  rcases h with ⟨rfl, h48⟩ | ⟨rfl, h48⟩
  · have hf : pFirst l a = a := by
      unfold pFirst
      rw [h0, if_neg (by simpa using h45)]
    have hd : pDig l a = c :: r := by
      unfold pDig
      rw [hf, hl, tw_app _ _ ha hs]
    unfold pEnd
    rw [hd, hf, if_neg]
    rintro (h | ⟨h, h' | h'⟩)
    · cases h
    · simp only [List.head?_cons, Option.some.injEq] at h
      rw [h48 h] at h'
      simp at h'
    · omega
  · have hf : pFirst l a = a + 1 := by
      unfold pFirst
      rw [h0, if_pos (by simp)]
    have hd : pDig l a = c :: r := by
      unfold pDig
      rw [hf, ← List.drop_drop, hl]
      show ((c :: r) ++ s).takeWhile dig = _
      rw [tw_app _ _ ha hs]
    unfold pEnd
    rw [hd, hf, if_neg]
    · simp only [List.length_cons]; omega
    · rintro (h | ⟨h, h'⟩)
      · cases h
      · simp only [List.head?_cons, Option.some.injEq] at h
        exact h48 h
theorem pEnd_dec {l : List UInt8} {a e : Nat} (he : pEnd l a = e) (hne : e ≠ a) : a ≤ e ∧ e ≤ l.length ∧ decB ((l.drop a).take (e - a)) = true := by
  unfold pEnd at he
  split at he
  · exact absurd he.symm hne
  · rename_i hn
    have hall : (pDig l a).all dig = true := by
      unfold pDig
      exact List.all_takeWhile
    have htk : pDig l a = (l.drop (pFirst l a)).take (pDig l a).length := by
      have := List.takeWhile_prefix dig (l := l.drop (pFirst l a))
      exact (List.prefix_iff_eq_take.1 this)
    rcases hd : pDig l a with _ | ⟨c, r⟩
    · exact absurd (.inl hd) hn
    · rw [hd] at hall htk hn he
      have hlen : (c :: r).length ≤ (l.drop (pFirst l a)).length := by
        rw [htk, List.length_take]; omega
      rw [List.length_drop] at hlen
      have hpos : 0 < (c :: r).length := by simp
      by_cases h45 : l[a]? = some 45
      · have hf : pFirst l a = a + 1 := by unfold pFirst; rw [if_pos h45]
        rw [hf] at he hlen htk hn
        obtain ⟨hal, hae⟩ := List.getElem?_eq_some_iff.1 h45
        refine ⟨by omega, by omega, ?_⟩
        have h1 : l.drop a = 45 :: l.drop (a + 1) := by rw [List.drop_eq_getElem_cons hal, hae]
        have h2 : (l.drop a).take (e - a) = 45 :: c :: r := by
          rw [h1, show e - a = (c :: r).length + 1 from by omega, List.take_succ_cons, ← htk]
        rw [h2]
        refine (decB_mk2 hall fun h48 => hn (.inr ⟨by simp [h48], .inr (by omega)⟩)).1
      · have hf : pFirst l a = a := by unfold pFirst; rw [if_neg h45]
        rw [hf] at he hlen htk hn
        refine ⟨by omega, by omega, ?_⟩
        have h2 : (l.drop a).take (e - a) = c :: r := by
          rw [show e - a = (c :: r).length from by omega, ← htk]
        rw [h2]
        refine (decB_mk1 hall fun h48 => ?_).1
        by_cases hr : r = []
        · exact hr
        · refine absurd (.inr ⟨by simp [h48], .inl ?_⟩) hn
          have := List.length_pos_iff.2 hr
          simp only [List.length_cons]; omega
end Go.Proofs.YtlgabpcjhhihdaaDoor
end

section
namespace Go.Proofs.YtlgabpcjhhihdaaDoor
open Go.RowKit Go.NW
set_option maxRecDepth 100000
theorem Tryd.end0 (w : World) : Calls Tryd.prog 55 #[.string (bs [45, 49, 43, 50, 105]), .int .i64 0] w fun e w' => e = .returned (.int .i64 2) ∧ w = w' := by
  have hS : (bs [45, 49, 43, 50, 105]).size = 5 := by rw [bs_size]; rfl
  have hG := bs_get
  have hB := bs_list
  have hE := bs_ext
  go_enter Tryd.func55, Tryd.ntmps55
  go_wp2_with fail
  go_loopw [5] (fun t5 W => W = w ∧ (t5 = .int .i64 1 ∨ t5 = .int .i64 2)) (fun t5 _ => 2 - (intO t5).toNat)
  case atStart => exact ⟨rfl, .inl rfl⟩
  case round =>
    obtain ⟨rfl, rfl | rfl⟩ := hrel
    · go_wp2_with fail
      exact ⟨⟨by first | rfl | trivial, .inr rfl⟩, by simp [intO]⟩
    · go_wp2_with fail
      have hs1 : (bs [49]).size = 1 := by rw [bs_size]; rfl
      go_wp2_with fail
      go_ret
      exact ⟨rfl, rfl⟩
theorem Tryd.end3 (w : World) : Calls Tryd.prog 55 #[.string (bs [45, 49, 43, 50, 105]), .int .i64 3] w fun e w' => e = .returned (.int .i64 4) ∧ w = w' := by
  have hS : (bs [45, 49, 43, 50, 105]).size = 5 := by rw [bs_size]; rfl
  have hG := bs_get
  have hB := bs_list
  have hE := bs_ext
  go_enter Tryd.func55, Tryd.ntmps55
  go_wp2_with fail
  go_loopw [5] (fun t5 W => W = w ∧ (t5 = .int .i64 3 ∨ t5 = .int .i64 4)) (fun t5 _ => 4 - (intO t5).toNat)
  case atStart => exact ⟨rfl, .inl rfl⟩
  case round =>
    obtain ⟨rfl, rfl | rfl⟩ := hrel
    · go_wp2_with fail
      exact ⟨⟨by first | rfl | trivial, .inr rfl⟩, by simp [intO]⟩
    · go_wp2_with fail
      have hs1 : (bs [50]).size = 1 := by rw [bs_size]; rfl
      go_wp2_with fail
      go_ret
      exact ⟨rfl, rfl⟩
end Go.Proofs.YtlgabpcjhhihdaaDoor
end

section
namespace Go.Proofs.YtlgabpcjhhihdaaDoor
open Go.RowKit Go.NW
set_option maxRecDepth 100000
abbrev fM1 : Nat := 13830554455654793216
abbrev f1 : Nat := 4607182418800017408
abbrev f2 : Nat := 4611686018427387904
abbrev f8 : Nat := 4620693217682128896
abbrev f9 : Nat := 4621256167635550208
theorem cv1 (w : World) : (convert 2 57 (.int .i64 (-1))).run Tryd.prog w = .ok (.float .f64 13830554455654793216) w := by
  simp [convert, run_underlying Tryd.underlying2, run_underlying Tryd.underlying57]
  kernel_rfl
theorem cv2 (w : World) : (convert 2 57 (.int .i64 2)).run Tryd.prog w = .ok (.float .f64 4611686018427387904) w := by
  simp [convert, run_underlying Tryd.underlying2, run_underlying Tryd.underlying57]
  kernel_rfl
theorem cplx (x y : Nat) (w : World) : (Builtin.complex_ #[57, 57] 23 #[.float .f64 x, .float .f64 y]).run Tryd.prog w = .ok (.complex .f64 x y) w := by kernel_rfl
theorem realC (x y : Nat) (w : World) : (Builtin.real_ #[23] 57 #[.complex .f64 x y]).run Tryd.prog w = .ok (.float .f64 x) w := by kernel_rfl
theorem imagC (x y : Nat) (w : World) : (Builtin.imag_ #[23] 57 #[.complex .f64 x y]).run Tryd.prog w = .ok (.float .f64 y) w := by kernel_rfl
theorem Tryd.ofM (w : World) : Calls Tryd.prog 70 #[.int .i64 (-1), .int .i64 2] w fun e w' => e = .returned (.tuple #[.complex .f64 13830554455654793216 4611686018427387904, .bool true]) ∧ Below w.heap.size w w' := by
  have h1 := cv1
  have h2 := cv2
  have hcx := cplx
  have hi0 : ∀ w, (Instr.index 109 (.agg #[.int .i64 (-1), .int .i64 2]) (.int .i64 0)).run Tryd.prog w = .ok (.int .i64 (-1)) w := fun w => by kernel_rfl
  have hi1 : ∀ w, (Instr.index 109 (.agg #[.int .i64 (-1), .int .i64 2]) (.int .i64 1)).run Tryd.prog w = .ok (.int .i64 2) w := fun w => by kernel_rfl
  go_enter Tryd.func70, Tryd.ntmps70
  go_wp2_with fail
  go_loopw [11] (fun t11 W => W = w ∧ (t11 = .int .i64 0 ∨ t11 = .int .i64 1 ∨ t11 = .int .i64 2)) (fun t11 _ => 2 - (intO t11).toNat)
  case atStart => exact ⟨rfl, .inl rfl⟩
  case round =>
    obtain ⟨rfl, rfl | rfl | rfl⟩ := hrel
    · go_wp2_with fail
      exact ⟨⟨by first | rfl | trivial, .inr (.inl rfl)⟩, by simp [intO]⟩
    · go_wp2_with fail
      exact ⟨⟨by first | rfl | trivial, .inr (.inr rfl)⟩, by simp [intO]⟩
    · go_wp2_with fail
      refine bodyPost_ret (v := .tuple #[.complex .f64 13830554455654793216 4611686018427387904, .bool true]) (by simp [results, Tryd.results70, go_sem]) rfl ⟨rfl, Below.refl _ _⟩
theorem Tryd.parts {B : Nat} {w : World} (hD : DoorI B w) (hB : B ≤ w.heap.size) : Calls Tryd.prog 56 #[.string (bs [45, 49]), .string (bs [50])] w fun e w' => e = .returned (.tuple #[.complex .f64 13830554455654793216 4611686018427387904, .bool true]) ∧ Below w.heap.size w w' := by
  have HD := Lib.hid hD
  clear hD
  go_enter Tryd.func56, Tryd.ntmps56
  go_wp2_with fail
  refine (Tryd.parseIntC HD.out [45, 49] (by decide)).mono ?_
  rintro e w1 (⟨v, hp, rfl, hb⟩ | ⟨n, tp, p, hp, rfl, hb⟩)
  · obtain rfl : v = -1 := by
      have h : Lib.parseIntB 64 [45, 49] = .ok (-1) := by decide
      rw [h] at hp
      injection hp with hp
      exact hp.symm
    have W1 := Lib.hid hb
    clear hb hp
    go_wp2_with fail
    refine (Tryd.parseIntC (HD.out.on (W1.out.mono hB)) [50] (by decide)).mono ?_
    rintro e w2 (⟨v, hp, rfl, hb⟩ | ⟨n, tp, p, hp, rfl, hb⟩)
    · obtain rfl : v = 2 := by
        have h : Lib.parseIntB 64 [50] = .ok 2 := by decide
        rw [h] at hp
        injection hp with hp
        exact hp.symm
      have W2 := Lib.hid (W1.out.trans (hb.mono W1.out.size))
      clear hb hp
      go_wp2_with fail
      refine (Tryd.ofM _).mono ?_
      rintro e w3 ⟨rfl, hb⟩
      have W3 := Lib.hid (W2.out.trans (hb.mono W2.out.size))
      clear hb
      go_wp2_with fail
      refine bodyPost_ret (v := .tuple #[.complex .f64 13830554455654793216 4611686018427387904, .bool true]) (by simp [results, Tryd.results56, go_sem]) rfl ⟨rfl, W3.out⟩
    · exact absurd (by decide) (hp 2)
  · exact absurd (by decide) (hp (-1))
end Go.Proofs.YtlgabpcjhhihdaaDoor
end

section
namespace Go.Proofs.YtlgabpcjhhihdaaDoor
open Go.RowKit Go.NW
set_option maxRecDepth 100000
def Fl (n : Int) : Nat := FloatKind.f64.nearest n
theorem cvF2 (n : Int) (w : World) : (convert 2 57 (.int .i64 n)).run Tryd.prog w = .ok (.float .f64 (Fl n)) w := by
  simp [convert, run_underlying Tryd.underlying2, run_underlying Tryd.underlying57, Conv.intToFloat, Fl]
def inP (n : Int) : Prop := -1048576 ≤ n ∧ n ≤ 1048576
instance (n : Int) : Decidable (inP n) := by unfold inP; exact inferInstance
theorem Tryd.of (a b : Int) (w : World) : Calls Tryd.prog 70 #[.int .i64 a, .int .i64 b] w fun e w' => e = .returned (if inP a ∧ inP b then .tuple #[.complex .f64 (Fl a) (Fl b), .bool true] else .tuple #[.complex .f64 0 0, .bool false]) ∧ w = w' := by
  have hcv := cvF2
  have hcx := cplx
  have hi0 : ∀ w, (Instr.index 109 (.agg #[.int .i64 a, .int .i64 b]) (.int .i64 0)).run Tryd.prog w = .ok (.int .i64 a) w := fun w => by kernel_rfl
  have hi1 : ∀ w, (Instr.index 109 (.agg #[.int .i64 a, .int .i64 b]) (.int .i64 1)).run Tryd.prog w = .ok (.int .i64 b) w := fun w => by kernel_rfl
  by_cases ha : inP a
  · have a1 : decide (a < -1048576) = false := decide_eq_false (by unfold inP at ha; omega)
    have a2 : decide (a > 1048576) = false := decide_eq_false (by unfold inP at ha; omega)
    by_cases hb : inP b
    · have b1 : decide (b < -1048576) = false := decide_eq_false (by unfold inP at hb; omega)
      have b2 : decide (b > 1048576) = false := decide_eq_false (by unfold inP at hb; omega)
      rw [if_pos ⟨ha, hb⟩]
      clear ha hb
      go_enter Tryd.func70, Tryd.ntmps70
      go_wp2_with fail
      go_loopw [11] (fun t11 W => W = w ∧ (t11 = .int .i64 0 ∨ t11 = .int .i64 1 ∨ t11 = .int .i64 2)) (fun t11 _ => 2 - (intO t11).toNat)
      case atStart => exact ⟨rfl, .inl rfl⟩
      case round =>
        obtain ⟨rfl, rfl | rfl | rfl⟩ := hrel
        · go_wp2_with fail
          exact ⟨⟨by first | rfl | trivial, .inr (.inl rfl)⟩, by simp [intO]⟩
        · go_wp2_with fail
          exact ⟨⟨by first | rfl | trivial, .inr (.inr rfl)⟩, by simp [intO]⟩
        · go_wp2_with fail
          refine bodyPost_ret (v := .tuple #[.complex .f64 (Fl a) (Fl b), .bool true]) (by simp [results, Tryd.results70, go_sem]) rfl ⟨rfl, rfl⟩
    · rw [if_neg (fun h => hb h.2)]
      by_cases b1' : b < -1048576
      · have b1 : decide (b < -1048576) = true := decide_eq_true b1'
        clear ha hb b1'
        go_enter Tryd.func70, Tryd.ntmps70
        go_wp2_with fail
        go_loopw [11] (fun t11 W => W = w ∧ (t11 = .int .i64 0 ∨ t11 = .int .i64 1)) (fun t11 _ => 2 - (intO t11).toNat)
        case atStart => exact ⟨rfl, .inl rfl⟩
        case round =>
          obtain ⟨rfl, rfl | rfl⟩ := hrel
          · go_wp2_with fail
            exact ⟨⟨by first | rfl | trivial, .inr rfl⟩, by simp [intO]⟩
          · go_wp2_with fail
            refine bodyPost_ret (v := .tuple #[.complex .f64 0 0, .bool false]) (by simp [results, Tryd.results70, go_sem]) rfl ⟨rfl, rfl⟩
      · have b1 : decide (b < -1048576) = false := decide_eq_false b1'
        have b2 : decide (b > 1048576) = true := decide_eq_true (by unfold inP at hb; omega)
        clear ha hb b1'
        go_enter Tryd.func70, Tryd.ntmps70
        go_wp2_with fail
        go_loopw [11] (fun t11 W => W = w ∧ (t11 = .int .i64 0 ∨ t11 = .int .i64 1)) (fun t11 _ => 2 - (intO t11).toNat)
        case atStart => exact ⟨rfl, .inl rfl⟩
        case round =>
          obtain ⟨rfl, rfl | rfl⟩ := hrel
          · go_wp2_with fail
            exact ⟨⟨by first | rfl | trivial, .inr rfl⟩, by simp [intO]⟩
          · go_wp2_with fail
            refine bodyPost_ret (v := .tuple #[.complex .f64 0 0, .bool false]) (by simp [results, Tryd.results70, go_sem]) rfl ⟨rfl, rfl⟩
  · rw [if_neg (fun h => ha h.1)]
    by_cases a1' : a < -1048576
    · have a1 : decide (a < -1048576) = true := decide_eq_true a1'
      clear ha a1'
      go_enter Tryd.func70, Tryd.ntmps70
      go_wp2_with fail
      go_loopw [11] (fun t11 W => W = w ∧ t11 = .int .i64 0) (fun t11 _ => 2 - (intO t11).toNat)
      case atStart => exact ⟨rfl, rfl⟩
      case round =>
        obtain ⟨rfl, rfl⟩ := hrel
        go_wp2_with fail
        refine bodyPost_ret (v := .tuple #[.complex .f64 0 0, .bool false]) (by simp [results, Tryd.results70, go_sem]) rfl ⟨rfl, rfl⟩
    · have a1 : decide (a < -1048576) = false := decide_eq_false a1'
      have a2 : decide (a > 1048576) = true := decide_eq_true (by unfold inP at ha; omega)
      clear ha a1'
      go_enter Tryd.func70, Tryd.ntmps70
      go_wp2_with fail
      go_loopw [11] (fun t11 W => W = w ∧ t11 = .int .i64 0) (fun t11 _ => 2 - (intO t11).toNat)
      case atStart => exact ⟨rfl, rfl⟩
      case round =>
        obtain ⟨rfl, rfl⟩ := hrel
        go_wp2_with fail
        refine bodyPost_ret (v := .tuple #[.complex .f64 0 0, .bool false]) (by simp [results, Tryd.results70, go_sem]) rfl ⟨rfl, rfl⟩
def ptOf (la lb : List UInt8) : Option (Nat × Nat) := match Lib.parseIntB 64 la, Lib.parseIntB 64 lb with
  | .ok a, .ok b => if inP a ∧ inP b then some (Fl a, Fl b) else none
  | _, _ => none
def ptV (o : Option (Nat × Nat)) : Value := match o with
  | some (x, y) => .tuple #[.complex .f64 x y, .bool true]
  | none => .tuple #[.complex .f64 0 0, .bool false]
theorem Tryd.partsC {B : Nat} {w : World} (hD : DoorI B w) (hB : B ≤ w.heap.size) (la lb : List UInt8) (hla : la.length < 2 ^ 40) (hlb : lb.length < 2 ^ 40) : Calls Tryd.prog 56 #[.string (bs la), .string (bs lb)] w fun e w' => e = .returned (ptV (ptOf la lb)) ∧ Below w.heap.size w w' := by
  have HD := Lib.hid hD
  obtain ⟨R, hR⟩ : ∃ R, R = ptV (ptOf la lb) := ⟨_, rfl⟩
  rw [← hR]
  have HR := Lib.hid hR
  clear hD hR
  go_enter Tryd.func56, Tryd.ntmps56
  go_wp2_with fail
  refine (Tryd.parseIntC HD.out la hla).mono ?_
  rintro e w1 (⟨a, hp, rfl, hb⟩ | ⟨n, tp, p, hp, rfl, hb⟩)
  · have HP := Lib.hid hp
    have W1 := Lib.hid hb
    clear hb hp
    go_wp2_with fail
    refine (Tryd.parseIntC (HD.out.on (W1.out.mono hB)) lb hlb).mono ?_
    rintro e w2 (⟨b, hp, rfl, hb⟩ | ⟨n, tp, p, hp, rfl, hb⟩)
    · have HQ := Lib.hid hp
      have W2 := Lib.hid (W1.out.trans (hb.mono W1.out.size))
      clear hb hp
      go_wp2_with fail
      refine (Tryd.of a b _).mono ?_
      rintro e w3 ⟨rfl, rfl⟩
      have hR : R = if inP a ∧ inP b then .tuple #[.complex .f64 (Fl a) (Fl b), .bool true] else .tuple #[.complex .f64 0 0, .bool false] := by
        rw [HR.out]; unfold ptOf; rw [HP.out, HQ.out]
        dsimp only
        split <;> rfl
      by_cases hab : inP a ∧ inP b
      · rw [if_pos hab] at hR ⊢
        subst hR
        clear hab HR
        go_wp2_with fail
        refine bodyPost_ret (v := .tuple #[.complex .f64 (Fl a) (Fl b), .bool true]) (by simp [results, Tryd.results56, go_sem]) rfl ⟨rfl, W2.out⟩
      · rw [if_neg hab] at hR ⊢
        subst hR
        clear hab HR
        go_wp2_with fail
        refine bodyPost_ret (v := .tuple #[.complex .f64 0 0, .bool false]) (by simp [results, Tryd.results56, go_sem]) rfl ⟨rfl, W2.out⟩
    · have W2 := Lib.hid (W1.out.trans (hb.mono W1.out.size))
      have hR : R = .tuple #[.complex .f64 0 0, .bool false] := by
        rw [HR.out]; unfold ptOf; rw [HP.out]
        rcases hq : Lib.parseIntB 64 lb with v | _ | _
        · exact absurd hq (hp v)
        · rfl
        · rfl
      subst hR
      clear hb hp HR
      go_wp2_with fail
      refine bodyPost_ret (v := .tuple #[.complex .f64 0 0, .bool false]) (by simp [results, Tryd.results56, go_sem]) rfl ⟨rfl, W2.out⟩
  · have W1 := Lib.hid hb
    have hR : R = .tuple #[.complex .f64 0 0, .bool false] := by
      rw [HR.out]; unfold ptOf
      rcases hq : Lib.parseIntB 64 la with v | _ | _
      · exact absurd hq (hp v)
      · rfl
      · rfl
    subst hR
    clear hb hp HR
    go_wp2_with fail
    refine (Tryd.parseIntC (HD.out.on (W1.out.mono hB)) lb hlb).mono ?_
    rintro e w2 (⟨b, hp, rfl, hb⟩ | ⟨n2, tp2, p2, hp, rfl, hb⟩)
    · have W2 := Lib.hid (W1.out.trans (hb.mono W1.out.size))
      clear hb hp
      go_wp2_with fail
      refine bodyPost_ret (v := .tuple #[.complex .f64 0 0, .bool false]) (by simp [results, Tryd.results56, go_sem]) rfl ⟨rfl, W2.out⟩
    · have W2 := Lib.hid (W1.out.trans (hb.mono W1.out.size))
      clear hb hp
      go_wp2_with fail
      refine bodyPost_ret (v := .tuple #[.complex .f64 0 0, .bool false]) (by simp [results, Tryd.results56, go_sem]) rfl ⟨rfl, W2.out⟩
end Go.Proofs.YtlgabpcjhhihdaaDoor
end

section
namespace Go.Proofs.YtlgabpcjhhihdaaDoor
open Go.RowKit Go.NW
set_option maxRecDepth 100000
theorem pEnd_le (l : List UInt8) (a : Nat) (ha : a ≤ l.length) : a ≤ pEnd l a ∧ pEnd l a ≤ l.length := by
  have h := (PE.mk' l a ha).fm
  unfold pEnd
  split
  · omega
  · refine ⟨?_, h⟩
    unfold pFirst
    split <;> omega
def pFrom (l : List UInt8) : Option Nat := if pEnd l 0 = 0 then none else match l[pEnd l 0]? with
  | none => none
  | some c => if c = 43 then (if l[pEnd l 0 + 1]? = some 45 then none else some (pEnd l 0 + 1)) else if c = 45 then some (pEnd l 0) else none
def ppS (l : List UInt8) : Option (List UInt8 × List UInt8) := match pFrom l with
  | none => none
  | some f => if pEnd l f = f ∨ l.drop (pEnd l f) ≠ [105] then none else some (l.take (pEnd l 0), (l.drop f).take (pEnd l f - f))
def ppV (l : List UInt8) : Value := match ppS l with
  | none => .tuple #[.complex .f64 0 0, .int .i64 2]
  | some (x, y) => match ptOf x y with
    | some (a, b) => .tuple #[.complex .f64 a b, .int .i64 0]
    | none => .tuple #[.complex .f64 0 0, .int .i64 1]
theorem ppV_none {l : List UInt8} (h : ppS l = none) : ppV l = .tuple #[.complex .f64 0 0, .int .i64 2] := by unfold ppV; rw [h]
set_option maxHeartbeats 4000000 in
theorem Tryd.pparseC {B : Nat} {w : World} (hD : DoorI B w) (hB : B ≤ w.heap.size) (l : List UInt8) (hl : l.length < 2 ^ 39) : Calls Tryd.prog 42 #[.string (bs l)] w fun e w' => e = .returned (ppV l) ∧ Below w.heap.size w w' := by
  have HD := Lib.hid hD
  obtain ⟨m, hm⟩ : ∃ m, m = l.length := ⟨_, rfl⟩
  have hS : (bs l).size = m := by rw [bs_size, hm]
  have hle0 := pEnd_le l 0 (Nat.zero_le _)
  obtain ⟨n, hn⟩ : ∃ n, pEnd l 0 = n := ⟨_, rfl⟩
  rw [hn, ← hm] at hle0
  rw [← hm] at hl
  have hpe := Tryd.partEnd l 0 (Nat.zero_le _) (by rw [← hm]; omega)
  rw [hn] at hpe
  have HPE0 := Lib.hid hpe
  have HPN := Lib.hid hn
  have HM := Lib.hid hm
  have hnm : n ≤ m := hle0.2
  have hG := bs_get
  have hL := bs_list
  clear hD hm hn hpe hle0
  by_cases hn0 : n = 0
  · have HN : Hid (ppV l = .tuple #[.complex .f64 0 0, .int .i64 2]) := Lib.hid (ppV_none (by unfold ppS pFrom; rw [HPN.out, if_pos hn0]))
    have q1 : ((n : Int) == 0) = true := by rw [hn0]; rfl
    have q2 : decide ((n : Int) = 0) = true := by rw [hn0]; rfl
    clear hn0
    go_enter Tryd.func42, Tryd.ntmps42
    go_wp2_with fail
    refine (HPE0.out _).mono ?_
    rintro e w1 ⟨rfl, rfl⟩
    go_wp2_with fail
    rw [HN.out]
    refine bodyPost_ret (v := .tuple #[.complex .f64 0 0, .int .i64 2]) (by simp [results, Tryd.results42, go_sem]) rfl ⟨rfl, Below.refl _ _⟩
  · have q1 : ((n : Int) == 0) = false := by simp; omega
    have q2 : decide ((n : Int) = 0) = false := decide_eq_false (by omega)
    by_cases hnm2 : n = m
    · have HN : Hid (ppV l = .tuple #[.complex .f64 0 0, .int .i64 2]) := Lib.hid (ppV_none (by
        unfold ppS pFrom; rw [HPN.out, if_neg hn0, List.getElem?_eq_none (by rw [← HM.out]; omega)]))
      have p1 : ((n : Int) == m) = true := by rw [hnm2]; simp
      have p2 : decide ((n : Int) = m) = true := by rw [hnm2]; simp
      clear hn0 hnm2
      go_enter Tryd.func42, Tryd.ntmps42
      go_wp2_with fail
      refine (HPE0.out _).mono ?_
      rintro e w1 ⟨rfl, rfl⟩
      go_wp2_with fail
      rw [HN.out]
      refine bodyPost_ret (v := .tuple #[.complex .f64 0 0, .int .i64 2]) (by simp [results, Tryd.results42, go_sem]) rfl ⟨rfl, Below.refl _ _⟩
    · have p1 : ((n : Int) == m) = false := by simp; omega
      have p2 : decide ((n : Int) = m) = false := decide_eq_false (by omega)
      have hnlt : n < m := by omega
      have hnltI : (n : Int) < m := by omega
      obtain ⟨c, hc⟩ : ∃ c, l[n]? = some c := ⟨_, List.getElem?_eq_getElem (by rw [← HM.out]; exact hnlt)⟩
      obtain ⟨hcl, hc'⟩ := List.getElem?_eq_some_iff.1 hc
      have HC := Lib.hid hc
      clear hc hnm2
      by_cases h43 : c = 43
      · have u1 : ((c.toNat : Int) == 43) = true := by rw [h43]; rfl
        have u2 : decide ((c.toNat : Int) = 43) = true := by rw [h43]; rfl
        have u3 : ((c.toNat : Int) == 45) = false := by rw [h43]; rfl
        have x1 : ((c.toNat : Int) != 43) = false := by rw [h43]; rfl
        have x2 : ((c.toNat : Int) != 45) = true := by rw [h43]; rfl
        obtain ⟨f, hf⟩ : ∃ f, f = n + 1 := ⟨_, rfl⟩
        have hfI : (n : Int) + 1 = (f : Int) := by omega
        have hfm : f ≤ m := by omega
        by_cases hfm2 : f < m
        · obtain ⟨d, hd⟩ : ∃ d, l[f]? = some d := ⟨_, List.getElem?_eq_getElem (by rw [← HM.out]; exact hfm2)⟩
          obtain ⟨hdl, hd'⟩ := List.getElem?_eq_some_iff.1 hd
          have f1 : decide ((f : Int) < m) = true := decide_eq_true (by omega)
          have f2 : decide (f < m) = true := decide_eq_true hfm2
          by_cases hd45 : d = 45
          · have v1 : ((d.toNat : Int) == 45) = true := by rw [hd45]; rfl
            have v2 : decide ((d.toNat : Int) = 45) = true := by rw [hd45]; rfl
            have HN : Hid (ppV l = .tuple #[.complex .f64 0 0, .int .i64 2]) := Lib.hid (ppV_none (by
              unfold ppS pFrom; rw [HPN.out, if_neg hn0, HC.out]; dsimp only; rw [if_pos h43, ← hf, hd, if_pos (by rw [hd45])]))
            clear hn0 h43 hd45 hd hf
            go_enter Tryd.func42, Tryd.ntmps42
            go_wp2_with fail
            refine (HPE0.out _).mono ?_
            rintro e w1 ⟨rfl, rfl⟩
            go_wp2_with fail
            rw [HN.out]
            refine bodyPost_ret (v := .tuple #[.complex .f64 0 0, .int .i64 2]) (by simp [results, Tryd.results42, go_sem]) rfl ⟨rfl, Below.refl _ _⟩
          · have hdn : d.toNat ≠ 45 := fun h => hd45 (UInt8.toNat_inj.1 h)
            have v1 : ((d.toNat : Int) == 45) = false := by simp; omega
            have v2 : decide ((d.toNat : Int) = 45) = false := decide_eq_false (by omega)
            have HF : Hid (pFrom l = some f) := Lib.hid (by
              unfold pFrom; rw [HPN.out, if_neg hn0, HC.out]; dsimp only; rw [if_pos h43, ← hf, hd, if_neg (by simpa using hd45)])
            clear hn0 h43 hd45 hd hf hdn
            go_enter Tryd.func42, Tryd.ntmps42
            go_wp2_with fail
            refine (HPE0.out _).mono ?_
            rintro e w1 ⟨rfl, rfl⟩
            go_wp2_with fail
            have hfm : f ≤ m := by omega
            refine (Tryd.partEnd l f (by rw [← HM.out]; exact hfm) (by rw [← HM.out]; omega) _).mono ?_
            rintro e w2 ⟨rfl, rfl⟩
            have hle := pEnd_le l f (by rw [← HM.out]; exact hfm)
            obtain ⟨e, he⟩ : ∃ e, pEnd l f = e := ⟨_, rfl⟩
            rw [he]
            rw [he, ← HM.out] at hle
            have HE := Lib.hid he
            have he1 : f ≤ e := hle.1
            have he2 : e ≤ m := hle.2
            have he1I : (f : Int) ≤ e := by omega
            have he2I : (e : Int) ≤ m := by omega
            have he0I : (0 : Int) ≤ e := by omega
            clear he hle
            by_cases hef : e = f
            · have HN : Hid (ppV l = .tuple #[.complex .f64 0 0, .int .i64 2]) := Lib.hid (ppV_none (by unfold ppS; rw [HF.out]; dsimp only; rw [HE.out, if_pos (.inl hef)]))
              have q1 : ((e : Int) == f) = true := by rw [hef]; simp
              have q2 : decide ((e : Int) = f) = true := by rw [hef]; simp
              clear hef
              go_wp2_with fail
              rw [HN.out]
              refine bodyPost_ret (v := .tuple #[.complex .f64 0 0, .int .i64 2]) (by simp [results, Tryd.results42, go_sem]) rfl ⟨rfl, Below.refl _ _⟩
            · have q1 : ((e : Int) == f) = false := by simp; omega
              have q2 : decide ((e : Int) = f) = false := decide_eq_false (by omega)
              have hxe : (bs l).extract e m = bs (l.drop e) := by
                rw [bs_ext, List.take_of_length_le (by rw [List.length_drop, HM.out]; omega)]
              by_cases h105 : l.drop e = [105]
              · have r1 : (l.drop e == [105]) = true := by rw [h105]; simp
                obtain ⟨X, hX⟩ : ∃ X, X = l.take n := ⟨_, rfl⟩
                obtain ⟨Y, hY⟩ : ∃ Y, Y = (l.drop f).take (e - f) := ⟨_, rfl⟩
                have hxX : (bs l).extract 0 n = bs X := by rw [bs_ext, hX]; rfl
                have hxY : (bs l).extract f e = bs Y := by rw [bs_ext, hY]
                have HXL : Hid (X.length < 2 ^ 40) := Lib.hid (by rw [hX, List.length_take, ← HM.out]; omega)
                have HYL : Hid (Y.length < 2 ^ 40) := Lib.hid (by rw [hY, List.length_take, List.length_drop, ← HM.out]; omega)
                have HV : Hid (ppV l = match ptOf X Y with
                | some (a, b) => .tuple #[.complex .f64 a b, .int .i64 0]
                | none => .tuple #[.complex .f64 0 0, .int .i64 1]) := Lib.hid (by
                  unfold ppV ppS; rw [HF.out]; dsimp only; rw [HE.out, if_neg (by rintro (h | h); exact hef h; exact h h105), HPN.out, ← hX, ← hY])
                clear hX hY h105 hef
                go_upto_region 12 with fail
                refine wp_region_noPanic ?_
                refine wp_region_held_drew (S := (fun _ => True)) (by kernel_rfl) ?_ (fun hHeld => ?_)
                · trivial
                refine wpAnyH_take (i := 0) (oi := { dst := some 61, op := Op.move (Operand.tmp 0), type := 9, pos := "point.go:148", after := #[], guard := none }) (v := ?_) rfl (by kernel_rfl) (by kernel_rfl) (by kernel_rfl) (fun _ _ _ h => h) (Or.inl ⟨by rfl, ?_⟩) (by assumption) ?_
                rotate_left
                · (intro w hSw; (try dsimp only at hSw); go_simp; try with_reducible rfl)
                try simp only [Act.put, List.setIfInBounds_toArray, List.set_cons_zero, List.set_cons_succ]
                refine wpAnyH_take (i := 1) (oi := { dst := some 62, op := Op.move (Operand.tmp 4), type := 3, pos := "point.go:148", after := #[], guard := none }) (v := ?_) rfl (by kernel_rfl) (by kernel_rfl) (by kernel_rfl) (fun _ _ _ h => h) (Or.inl ⟨by rfl, ?_⟩) (by assumption) ?_
                rotate_left
                · (intro w hSw; (try dsimp only at hSw); go_simp; try with_reducible rfl)
                try simp only [Act.put, List.setIfInBounds_toArray, List.set_cons_zero, List.set_cons_succ]
                refine wpAnyH_take (i := 2) (oi := { dst := some 63, op := Op.slice 9 (Operand.tmp 61) none (some (Operand.tmp 62)) none, type := 9, pos := "point.go:148", after := #[{ on := 0, ground := Ground.data }, { on := 1, ground := Ground.data }], guard := none }) (v := ?_) rfl (by kernel_rfl) (by kernel_rfl) (by kernel_rfl) (fun _ _ _ h => h) (Or.inl ⟨by rfl, ?_⟩) (by assumption) ?_
                rotate_left
                · (intro w hSw; (try dsimp only at hSw); go_simp; try with_reducible rfl)
                try simp only [Act.put, List.setIfInBounds_toArray, List.set_cons_zero, List.set_cons_succ]
                refine wpAnyH_take (i := 3) (oi := { dst := some 64, op := Op.move (Operand.tmp 0), type := 9, pos := "point.go:148", after := #[], guard := none }) (v := ?_) rfl (by kernel_rfl) (by kernel_rfl) (by kernel_rfl) (fun _ _ _ h => h) (Or.inl ⟨by rfl, ?_⟩) (by assumption) ?_
                rotate_left
                · (intro w hSw; (try dsimp only at hSw); go_simp; try with_reducible rfl)
                try simp only [Act.put, List.setIfInBounds_toArray, List.set_cons_zero, List.set_cons_succ]
                refine wpAnyH_take (i := 4) (oi := { dst := some 65, op := Op.move (Operand.tmp 5), type := 3, pos := "point.go:148", after := #[], guard := none }) (v := ?_) rfl (by kernel_rfl) (by kernel_rfl) (by kernel_rfl) (fun _ _ _ h => h) (Or.inl ⟨by rfl, ?_⟩) (by assumption) ?_
                rotate_left
                · (intro w hSw; (try dsimp only at hSw); go_simp; try with_reducible rfl)
                try simp only [Act.put, List.setIfInBounds_toArray, List.set_cons_zero, List.set_cons_succ]
                refine wpAnyH_take (i := 5) (oi := { dst := some 66, op := Op.move (Operand.tmp 6), type := 3, pos := "point.go:148", after := #[], guard := none }) (v := ?_) rfl (by kernel_rfl) (by kernel_rfl) (by kernel_rfl) (fun _ _ _ h => h) (Or.inl ⟨by rfl, ?_⟩) (by assumption) ?_
                rotate_left
                · (intro w hSw; (try dsimp only at hSw); go_simp; try with_reducible rfl)
                try simp only [Act.put, List.setIfInBounds_toArray, List.set_cons_zero, List.set_cons_succ]
                refine wpAnyH_take (i := 6) (oi := { dst := some 67, op := Op.slice 9 (Operand.tmp 64) (some (Operand.tmp 65)) (some (Operand.tmp 66)) none, type := 9, pos := "point.go:148", after := #[{ on := 3, ground := Ground.data }, { on := 4, ground := Ground.data }, { on := 5, ground := Ground.data }], guard := none }) (v := ?_) rfl (by kernel_rfl) (by kernel_rfl) (by kernel_rfl) (fun _ _ _ h => h) (Or.inl ⟨by rfl, ?_⟩) (by assumption) ?_
                rotate_left
                · (intro w hSw; (try dsimp only at hSw); go_simp; try with_reducible rfl)
                try simp only [Act.put, List.setIfInBounds_toArray, List.set_cons_zero, List.set_cons_succ]
                refine wpAnyH_ready (rs := [7]) (by kernel_rfl) (by simp) ?_
                refine AllReadyH.cons (o := { dst := some 68, op := Op.call { callee := Callee.value (Operand.func 56), args := #[Operand.tmp 63, Operand.tmp 67], argTypes := #[9, 9] }, type := 81, pos := "point.go:148", after := #[{ on := 2, ground := Ground.data }, { on := 6, ground := Ground.data }], guard := none }) rfl (fun K hK => ?_) AllReadyH.nil
                go_simp
                refine (Tryd.partsC (HD.out.on ((Below.refl B w).drew)) hB X Y HXL.out HYL.out).mono ?_
                rintro e V1 ⟨rfl, hb⟩
                have W1 := Lib.hid ((Below.refl w.heap.size w).drew.trans hb)
                clear hb
                refine hK.out _ _ ?_ (fun hHeld => ?_)
                · trivial
                clear hK K
                try simp only [Act.put, List.setIfInBounds_toArray, List.set_cons_zero, List.set_cons_succ]
                refine wpAnyH_take (i := 8) (oi := { dst := some 60, op := Op.move (Operand.tmp 68), type := 81, pos := "point.go:148", after := #[{ on := 7, ground := Ground.data }], guard := none }) (v := ?_) rfl (by kernel_rfl) (by kernel_rfl) (by kernel_rfl) (fun _ _ _ h => h) (Or.inl ⟨by rfl, ?_⟩) (by assumption) ?_
                rotate_left
                · (intro w hSw; (try dsimp only at hSw); go_simp; try with_reducible rfl)
                try simp only [Act.put, List.setIfInBounds_toArray, List.set_cons_zero, List.set_cons_succ]
                rcases hp : ptOf X Y with _ | ⟨a, b⟩
                · have HN : Hid (ppV l = .tuple #[.complex .f64 0 0, .int .i64 1]) := Lib.hid (by rw [HV.out, hp])
                  rw [show ptV none = .tuple #[.complex .f64 0 0, .bool false] from rfl]
                  clear hp
                  refine wpAnyH_take (i := 9) (oi := { dst := some 69, op := Op.extract (Operand.tmp 60) 0, type := 23, pos := "point.go:148", after := #[{ on := 8, ground := Ground.data }], guard := none }) (v := ?_) rfl (by kernel_rfl) (by kernel_rfl) (by kernel_rfl) (fun _ _ _ h => h) (Or.inl ⟨by rfl, ?_⟩) (by assumption) ?_
                  rotate_left
                  · (intro w hSw; (try dsimp only at hSw); go_simp; try with_reducible rfl)
                  try simp only [Act.put, List.setIfInBounds_toArray, List.set_cons_zero, List.set_cons_succ]
                  refine wpAnyH_take (i := 10) (oi := { dst := some 70, op := Op.extract (Operand.tmp 60) 1, type := 4, pos := "point.go:148", after := #[{ on := 8, ground := Ground.data }, { on := 11, ground := Ground.gcOnly Departure.lateStores }], guard := none }) (v := ?_) rfl (by kernel_rfl) (by kernel_rfl) (by kernel_rfl) (fun _ _ _ h => h) (Or.inl ⟨by rfl, ?_⟩) (by assumption) ?_
                  rotate_left
                  · (intro w hSw; (try dsimp only at hSw); go_simp; try with_reducible rfl)
                  try simp only [Act.put, List.setIfInBounds_toArray, List.set_cons_zero, List.set_cons_succ]
                  refine wpAnyH_take (i := 11) (oi := { dst := some 7, op := Op.assign (Operand.tmp 69), type := 23, pos := "point.go:148", after := #[{ on := 9, ground := Ground.data }, { on := 7, ground := Ground.chain }, { on := 0, ground := Ground.phase }, { on := 1, ground := Ground.phase }, { on := 2, ground := Ground.phase }, { on := 3, ground := Ground.phase }, { on := 4, ground := Ground.phase }, { on := 5, ground := Ground.phase }, { on := 6, ground := Ground.phase }, { on := 7, ground := Ground.phase }, { on := 8, ground := Ground.phase }, { on := 9, ground := Ground.phase }, { on := 10, ground := Ground.textOnly Departure.lateStores }], guard := none }) (v := ?_) rfl (by kernel_rfl) (by kernel_rfl) (by kernel_rfl) (fun _ _ _ h => h) (Or.inl ⟨by rfl, ?_⟩) (by assumption) ?_
                  rotate_left
                  · (intro w hSw; (try dsimp only at hSw); go_simp; try with_reducible rfl)
                  try simp only [Act.put, List.setIfInBounds_toArray, List.set_cons_zero, List.set_cons_succ]
                  refine wpAnyH_take (i := 12) (oi := { dst := some 8, op := Op.assign (Operand.tmp 70), type := 4, pos := "point.go:148", after := #[{ on := 10, ground := Ground.data }, { on := 11, ground := Ground.chain }, { on := 0, ground := Ground.phase }, { on := 1, ground := Ground.phase }, { on := 2, ground := Ground.phase }, { on := 3, ground := Ground.phase }, { on := 4, ground := Ground.phase }, { on := 5, ground := Ground.phase }, { on := 6, ground := Ground.phase }, { on := 7, ground := Ground.phase }, { on := 8, ground := Ground.phase }, { on := 9, ground := Ground.phase }, { on := 10, ground := Ground.phase }, { on := 11, ground := Ground.phase }], guard := none }) (v := ?_) rfl (by kernel_rfl) (by kernel_rfl) (by kernel_rfl) (fun _ _ _ h => h) (Or.inl ⟨by rfl, ?_⟩) (by assumption) ?_
                  rotate_left
                  · (intro w hSw; (try dsimp only at hSw); go_simp; try with_reducible rfl)
                  try simp only [Act.put, List.setIfInBounds_toArray, List.set_cons_zero, List.set_cons_succ]
                  refine wpAnyH_done (by kernel_rfl) ?_ _
                  refine NoPanic.normal ?_
                  clear hHeld
                  go_wp2_with fail
                  rw [HN.out]
                  refine bodyPost_ret (v := .tuple #[.complex .f64 0 0, .int .i64 1]) (by simp [results, Tryd.results42, go_sem]) rfl ⟨rfl, W1.out⟩
                · have HN : Hid (ppV l = .tuple #[.complex .f64 a b, .int .i64 0]) := Lib.hid (by rw [HV.out, hp])
                  rw [show ptV (some (a, b)) = .tuple #[.complex .f64 a b, .bool true] from rfl]
                  clear hp
                  refine wpAnyH_take (i := 9) (oi := { dst := some 69, op := Op.extract (Operand.tmp 60) 0, type := 23, pos := "point.go:148", after := #[{ on := 8, ground := Ground.data }], guard := none }) (v := ?_) rfl (by kernel_rfl) (by kernel_rfl) (by kernel_rfl) (fun _ _ _ h => h) (Or.inl ⟨by rfl, ?_⟩) (by assumption) ?_
                  rotate_left
                  · (intro w hSw; (try dsimp only at hSw); go_simp; try with_reducible rfl)
                  try simp only [Act.put, List.setIfInBounds_toArray, List.set_cons_zero, List.set_cons_succ]
                  refine wpAnyH_take (i := 10) (oi := { dst := some 70, op := Op.extract (Operand.tmp 60) 1, type := 4, pos := "point.go:148", after := #[{ on := 8, ground := Ground.data }, { on := 11, ground := Ground.gcOnly Departure.lateStores }], guard := none }) (v := ?_) rfl (by kernel_rfl) (by kernel_rfl) (by kernel_rfl) (fun _ _ _ h => h) (Or.inl ⟨by rfl, ?_⟩) (by assumption) ?_
                  rotate_left
                  · (intro w hSw; (try dsimp only at hSw); go_simp; try with_reducible rfl)
                  try simp only [Act.put, List.setIfInBounds_toArray, List.set_cons_zero, List.set_cons_succ]
                  refine wpAnyH_take (i := 11) (oi := { dst := some 7, op := Op.assign (Operand.tmp 69), type := 23, pos := "point.go:148", after := #[{ on := 9, ground := Ground.data }, { on := 7, ground := Ground.chain }, { on := 0, ground := Ground.phase }, { on := 1, ground := Ground.phase }, { on := 2, ground := Ground.phase }, { on := 3, ground := Ground.phase }, { on := 4, ground := Ground.phase }, { on := 5, ground := Ground.phase }, { on := 6, ground := Ground.phase }, { on := 7, ground := Ground.phase }, { on := 8, ground := Ground.phase }, { on := 9, ground := Ground.phase }, { on := 10, ground := Ground.textOnly Departure.lateStores }], guard := none }) (v := ?_) rfl (by kernel_rfl) (by kernel_rfl) (by kernel_rfl) (fun _ _ _ h => h) (Or.inl ⟨by rfl, ?_⟩) (by assumption) ?_
                  rotate_left
                  · (intro w hSw; (try dsimp only at hSw); go_simp; try with_reducible rfl)
                  try simp only [Act.put, List.setIfInBounds_toArray, List.set_cons_zero, List.set_cons_succ]
                  refine wpAnyH_take (i := 12) (oi := { dst := some 8, op := Op.assign (Operand.tmp 70), type := 4, pos := "point.go:148", after := #[{ on := 10, ground := Ground.data }, { on := 11, ground := Ground.chain }, { on := 0, ground := Ground.phase }, { on := 1, ground := Ground.phase }, { on := 2, ground := Ground.phase }, { on := 3, ground := Ground.phase }, { on := 4, ground := Ground.phase }, { on := 5, ground := Ground.phase }, { on := 6, ground := Ground.phase }, { on := 7, ground := Ground.phase }, { on := 8, ground := Ground.phase }, { on := 9, ground := Ground.phase }, { on := 10, ground := Ground.phase }, { on := 11, ground := Ground.phase }], guard := none }) (v := ?_) rfl (by kernel_rfl) (by kernel_rfl) (by kernel_rfl) (fun _ _ _ h => h) (Or.inl ⟨by rfl, ?_⟩) (by assumption) ?_
                  rotate_left
                  · (intro w hSw; (try dsimp only at hSw); go_simp; try with_reducible rfl)
                  try simp only [Act.put, List.setIfInBounds_toArray, List.set_cons_zero, List.set_cons_succ]
                  refine wpAnyH_done (by kernel_rfl) ?_ _
                  refine NoPanic.normal ?_
                  clear hHeld
                  go_wp2_with fail
                  rw [HN.out]
                  refine bodyPost_ret (v := .tuple #[.complex .f64 a b, .int .i64 0]) (by simp [results, Tryd.results42, go_sem]) rfl ⟨rfl, W1.out⟩
              · have r1 : (l.drop e == [105]) = false := beq_eq_false_iff_ne.2 h105
                have HN : Hid (ppV l = .tuple #[.complex .f64 0 0, .int .i64 2]) := Lib.hid (ppV_none (by unfold ppS; rw [HF.out]; dsimp only; rw [HE.out, if_pos (.inr h105)]))
                clear h105 hef
                go_wp2_with fail
                rw [HN.out]
                refine bodyPost_ret (v := .tuple #[.complex .f64 0 0, .int .i64 2]) (by simp [results, Tryd.results42, go_sem]) rfl ⟨rfl, Below.refl _ _⟩
        · have f1 : decide ((f : Int) < m) = false := decide_eq_false (by omega)
          have f2 : decide (f < m) = false := decide_eq_false hfm2
          have HF : Hid (pFrom l = some f) := Lib.hid (by
            unfold pFrom; rw [HPN.out, if_neg hn0, HC.out]; dsimp only; rw [if_pos h43, ← hf, List.getElem?_eq_none (by rw [← HM.out]; omega), if_neg (by simp)])
          clear hn0 h43 hf
          go_enter Tryd.func42, Tryd.ntmps42
          go_wp2_with fail
          refine (HPE0.out _).mono ?_
          rintro e w1 ⟨rfl, rfl⟩
          go_wp2_with fail
          have hfm : f ≤ m := by omega
          refine (Tryd.partEnd l f (by rw [← HM.out]; exact hfm) (by rw [← HM.out]; omega) _).mono ?_
          rintro e w2 ⟨rfl, rfl⟩
          have hle := pEnd_le l f (by rw [← HM.out]; exact hfm)
          obtain ⟨e, he⟩ : ∃ e, pEnd l f = e := ⟨_, rfl⟩
          rw [he]
          rw [he, ← HM.out] at hle
          have HE := Lib.hid he
          have he1 : f ≤ e := hle.1
          have he2 : e ≤ m := hle.2
          have he1I : (f : Int) ≤ e := by omega
          have he2I : (e : Int) ≤ m := by omega
          have he0I : (0 : Int) ≤ e := by omega
          clear he hle
          by_cases hef : e = f
          · have HN : Hid (ppV l = .tuple #[.complex .f64 0 0, .int .i64 2]) := Lib.hid (ppV_none (by unfold ppS; rw [HF.out]; dsimp only; rw [HE.out, if_pos (.inl hef)]))
            have q1 : ((e : Int) == f) = true := by rw [hef]; simp
            have q2 : decide ((e : Int) = f) = true := by rw [hef]; simp
            clear hef
            go_wp2_with fail
            rw [HN.out]
            refine bodyPost_ret (v := .tuple #[.complex .f64 0 0, .int .i64 2]) (by simp [results, Tryd.results42, go_sem]) rfl ⟨rfl, Below.refl _ _⟩
          · have q1 : ((e : Int) == f) = false := by simp; omega
            have q2 : decide ((e : Int) = f) = false := decide_eq_false (by omega)
            have hxe : (bs l).extract e m = bs (l.drop e) := by
              rw [bs_ext, List.take_of_length_le (by rw [List.length_drop, HM.out]; omega)]
            by_cases h105 : l.drop e = [105]
            · have r1 : (l.drop e == [105]) = true := by rw [h105]; simp
              obtain ⟨X, hX⟩ : ∃ X, X = l.take n := ⟨_, rfl⟩
              obtain ⟨Y, hY⟩ : ∃ Y, Y = (l.drop f).take (e - f) := ⟨_, rfl⟩
              have hxX : (bs l).extract 0 n = bs X := by rw [bs_ext, hX]; rfl
              have hxY : (bs l).extract f e = bs Y := by rw [bs_ext, hY]
              have HXL : Hid (X.length < 2 ^ 40) := Lib.hid (by rw [hX, List.length_take, ← HM.out]; omega)
              have HYL : Hid (Y.length < 2 ^ 40) := Lib.hid (by rw [hY, List.length_take, List.length_drop, ← HM.out]; omega)
              have HV : Hid (ppV l = match ptOf X Y with
              | some (a, b) => .tuple #[.complex .f64 a b, .int .i64 0]
              | none => .tuple #[.complex .f64 0 0, .int .i64 1]) := Lib.hid (by
                unfold ppV ppS; rw [HF.out]; dsimp only; rw [HE.out, if_neg (by rintro (h | h); exact hef h; exact h h105), HPN.out, ← hX, ← hY])
              clear hX hY h105 hef
              go_upto_region 12 with fail
              refine wp_region_noPanic ?_
              refine wp_region_held_drew (S := (fun _ => True)) (by kernel_rfl) ?_ (fun hHeld => ?_)
              · trivial
              refine wpAnyH_take (i := 0) (oi := { dst := some 61, op := Op.move (Operand.tmp 0), type := 9, pos := "point.go:148", after := #[], guard := none }) (v := ?_) rfl (by kernel_rfl) (by kernel_rfl) (by kernel_rfl) (fun _ _ _ h => h) (Or.inl ⟨by rfl, ?_⟩) (by assumption) ?_
              rotate_left
              · (intro w hSw; (try dsimp only at hSw); go_simp; try with_reducible rfl)
              try simp only [Act.put, List.setIfInBounds_toArray, List.set_cons_zero, List.set_cons_succ]
              refine wpAnyH_take (i := 1) (oi := { dst := some 62, op := Op.move (Operand.tmp 4), type := 3, pos := "point.go:148", after := #[], guard := none }) (v := ?_) rfl (by kernel_rfl) (by kernel_rfl) (by kernel_rfl) (fun _ _ _ h => h) (Or.inl ⟨by rfl, ?_⟩) (by assumption) ?_
              rotate_left
              · (intro w hSw; (try dsimp only at hSw); go_simp; try with_reducible rfl)
              try simp only [Act.put, List.setIfInBounds_toArray, List.set_cons_zero, List.set_cons_succ]
              refine wpAnyH_take (i := 2) (oi := { dst := some 63, op := Op.slice 9 (Operand.tmp 61) none (some (Operand.tmp 62)) none, type := 9, pos := "point.go:148", after := #[{ on := 0, ground := Ground.data }, { on := 1, ground := Ground.data }], guard := none }) (v := ?_) rfl (by kernel_rfl) (by kernel_rfl) (by kernel_rfl) (fun _ _ _ h => h) (Or.inl ⟨by rfl, ?_⟩) (by assumption) ?_
              rotate_left
              · (intro w hSw; (try dsimp only at hSw); go_simp; try with_reducible rfl)
              try simp only [Act.put, List.setIfInBounds_toArray, List.set_cons_zero, List.set_cons_succ]
              refine wpAnyH_take (i := 3) (oi := { dst := some 64, op := Op.move (Operand.tmp 0), type := 9, pos := "point.go:148", after := #[], guard := none }) (v := ?_) rfl (by kernel_rfl) (by kernel_rfl) (by kernel_rfl) (fun _ _ _ h => h) (Or.inl ⟨by rfl, ?_⟩) (by assumption) ?_
              rotate_left
              · (intro w hSw; (try dsimp only at hSw); go_simp; try with_reducible rfl)
              try simp only [Act.put, List.setIfInBounds_toArray, List.set_cons_zero, List.set_cons_succ]
              refine wpAnyH_take (i := 4) (oi := { dst := some 65, op := Op.move (Operand.tmp 5), type := 3, pos := "point.go:148", after := #[], guard := none }) (v := ?_) rfl (by kernel_rfl) (by kernel_rfl) (by kernel_rfl) (fun _ _ _ h => h) (Or.inl ⟨by rfl, ?_⟩) (by assumption) ?_
              rotate_left
              · (intro w hSw; (try dsimp only at hSw); go_simp; try with_reducible rfl)
              try simp only [Act.put, List.setIfInBounds_toArray, List.set_cons_zero, List.set_cons_succ]
              refine wpAnyH_take (i := 5) (oi := { dst := some 66, op := Op.move (Operand.tmp 6), type := 3, pos := "point.go:148", after := #[], guard := none }) (v := ?_) rfl (by kernel_rfl) (by kernel_rfl) (by kernel_rfl) (fun _ _ _ h => h) (Or.inl ⟨by rfl, ?_⟩) (by assumption) ?_
              rotate_left
              · (intro w hSw; (try dsimp only at hSw); go_simp; try with_reducible rfl)
              try simp only [Act.put, List.setIfInBounds_toArray, List.set_cons_zero, List.set_cons_succ]
              refine wpAnyH_take (i := 6) (oi := { dst := some 67, op := Op.slice 9 (Operand.tmp 64) (some (Operand.tmp 65)) (some (Operand.tmp 66)) none, type := 9, pos := "point.go:148", after := #[{ on := 3, ground := Ground.data }, { on := 4, ground := Ground.data }, { on := 5, ground := Ground.data }], guard := none }) (v := ?_) rfl (by kernel_rfl) (by kernel_rfl) (by kernel_rfl) (fun _ _ _ h => h) (Or.inl ⟨by rfl, ?_⟩) (by assumption) ?_
              rotate_left
              · (intro w hSw; (try dsimp only at hSw); go_simp; try with_reducible rfl)
              try simp only [Act.put, List.setIfInBounds_toArray, List.set_cons_zero, List.set_cons_succ]
              refine wpAnyH_ready (rs := [7]) (by kernel_rfl) (by simp) ?_
              refine AllReadyH.cons (o := { dst := some 68, op := Op.call { callee := Callee.value (Operand.func 56), args := #[Operand.tmp 63, Operand.tmp 67], argTypes := #[9, 9] }, type := 81, pos := "point.go:148", after := #[{ on := 2, ground := Ground.data }, { on := 6, ground := Ground.data }], guard := none }) rfl (fun K hK => ?_) AllReadyH.nil
              go_simp
              refine (Tryd.partsC (HD.out.on ((Below.refl B w).drew)) hB X Y HXL.out HYL.out).mono ?_
              rintro e V1 ⟨rfl, hb⟩
              have W1 := Lib.hid ((Below.refl w.heap.size w).drew.trans hb)
              clear hb
              refine hK.out _ _ ?_ (fun hHeld => ?_)
              · trivial
              clear hK K
              try simp only [Act.put, List.setIfInBounds_toArray, List.set_cons_zero, List.set_cons_succ]
              refine wpAnyH_take (i := 8) (oi := { dst := some 60, op := Op.move (Operand.tmp 68), type := 81, pos := "point.go:148", after := #[{ on := 7, ground := Ground.data }], guard := none }) (v := ?_) rfl (by kernel_rfl) (by kernel_rfl) (by kernel_rfl) (fun _ _ _ h => h) (Or.inl ⟨by rfl, ?_⟩) (by assumption) ?_
              rotate_left
              · (intro w hSw; (try dsimp only at hSw); go_simp; try with_reducible rfl)
              try simp only [Act.put, List.setIfInBounds_toArray, List.set_cons_zero, List.set_cons_succ]
              rcases hp : ptOf X Y with _ | ⟨a, b⟩
              · have HN : Hid (ppV l = .tuple #[.complex .f64 0 0, .int .i64 1]) := Lib.hid (by rw [HV.out, hp])
                rw [show ptV none = .tuple #[.complex .f64 0 0, .bool false] from rfl]
                clear hp
                refine wpAnyH_take (i := 9) (oi := { dst := some 69, op := Op.extract (Operand.tmp 60) 0, type := 23, pos := "point.go:148", after := #[{ on := 8, ground := Ground.data }], guard := none }) (v := ?_) rfl (by kernel_rfl) (by kernel_rfl) (by kernel_rfl) (fun _ _ _ h => h) (Or.inl ⟨by rfl, ?_⟩) (by assumption) ?_
                rotate_left
                · (intro w hSw; (try dsimp only at hSw); go_simp; try with_reducible rfl)
                try simp only [Act.put, List.setIfInBounds_toArray, List.set_cons_zero, List.set_cons_succ]
                refine wpAnyH_take (i := 10) (oi := { dst := some 70, op := Op.extract (Operand.tmp 60) 1, type := 4, pos := "point.go:148", after := #[{ on := 8, ground := Ground.data }, { on := 11, ground := Ground.gcOnly Departure.lateStores }], guard := none }) (v := ?_) rfl (by kernel_rfl) (by kernel_rfl) (by kernel_rfl) (fun _ _ _ h => h) (Or.inl ⟨by rfl, ?_⟩) (by assumption) ?_
                rotate_left
                · (intro w hSw; (try dsimp only at hSw); go_simp; try with_reducible rfl)
                try simp only [Act.put, List.setIfInBounds_toArray, List.set_cons_zero, List.set_cons_succ]
                refine wpAnyH_take (i := 11) (oi := { dst := some 7, op := Op.assign (Operand.tmp 69), type := 23, pos := "point.go:148", after := #[{ on := 9, ground := Ground.data }, { on := 7, ground := Ground.chain }, { on := 0, ground := Ground.phase }, { on := 1, ground := Ground.phase }, { on := 2, ground := Ground.phase }, { on := 3, ground := Ground.phase }, { on := 4, ground := Ground.phase }, { on := 5, ground := Ground.phase }, { on := 6, ground := Ground.phase }, { on := 7, ground := Ground.phase }, { on := 8, ground := Ground.phase }, { on := 9, ground := Ground.phase }, { on := 10, ground := Ground.textOnly Departure.lateStores }], guard := none }) (v := ?_) rfl (by kernel_rfl) (by kernel_rfl) (by kernel_rfl) (fun _ _ _ h => h) (Or.inl ⟨by rfl, ?_⟩) (by assumption) ?_
                rotate_left
                · (intro w hSw; (try dsimp only at hSw); go_simp; try with_reducible rfl)
                try simp only [Act.put, List.setIfInBounds_toArray, List.set_cons_zero, List.set_cons_succ]
                refine wpAnyH_take (i := 12) (oi := { dst := some 8, op := Op.assign (Operand.tmp 70), type := 4, pos := "point.go:148", after := #[{ on := 10, ground := Ground.data }, { on := 11, ground := Ground.chain }, { on := 0, ground := Ground.phase }, { on := 1, ground := Ground.phase }, { on := 2, ground := Ground.phase }, { on := 3, ground := Ground.phase }, { on := 4, ground := Ground.phase }, { on := 5, ground := Ground.phase }, { on := 6, ground := Ground.phase }, { on := 7, ground := Ground.phase }, { on := 8, ground := Ground.phase }, { on := 9, ground := Ground.phase }, { on := 10, ground := Ground.phase }, { on := 11, ground := Ground.phase }], guard := none }) (v := ?_) rfl (by kernel_rfl) (by kernel_rfl) (by kernel_rfl) (fun _ _ _ h => h) (Or.inl ⟨by rfl, ?_⟩) (by assumption) ?_
                rotate_left
                · (intro w hSw; (try dsimp only at hSw); go_simp; try with_reducible rfl)
                try simp only [Act.put, List.setIfInBounds_toArray, List.set_cons_zero, List.set_cons_succ]
                refine wpAnyH_done (by kernel_rfl) ?_ _
                refine NoPanic.normal ?_
                clear hHeld
                go_wp2_with fail
                rw [HN.out]
                refine bodyPost_ret (v := .tuple #[.complex .f64 0 0, .int .i64 1]) (by simp [results, Tryd.results42, go_sem]) rfl ⟨rfl, W1.out⟩
              · have HN : Hid (ppV l = .tuple #[.complex .f64 a b, .int .i64 0]) := Lib.hid (by rw [HV.out, hp])
                rw [show ptV (some (a, b)) = .tuple #[.complex .f64 a b, .bool true] from rfl]
                clear hp
                refine wpAnyH_take (i := 9) (oi := { dst := some 69, op := Op.extract (Operand.tmp 60) 0, type := 23, pos := "point.go:148", after := #[{ on := 8, ground := Ground.data }], guard := none }) (v := ?_) rfl (by kernel_rfl) (by kernel_rfl) (by kernel_rfl) (fun _ _ _ h => h) (Or.inl ⟨by rfl, ?_⟩) (by assumption) ?_
                rotate_left
                · (intro w hSw; (try dsimp only at hSw); go_simp; try with_reducible rfl)
                try simp only [Act.put, List.setIfInBounds_toArray, List.set_cons_zero, List.set_cons_succ]
                refine wpAnyH_take (i := 10) (oi := { dst := some 70, op := Op.extract (Operand.tmp 60) 1, type := 4, pos := "point.go:148", after := #[{ on := 8, ground := Ground.data }, { on := 11, ground := Ground.gcOnly Departure.lateStores }], guard := none }) (v := ?_) rfl (by kernel_rfl) (by kernel_rfl) (by kernel_rfl) (fun _ _ _ h => h) (Or.inl ⟨by rfl, ?_⟩) (by assumption) ?_
                rotate_left
                · (intro w hSw; (try dsimp only at hSw); go_simp; try with_reducible rfl)
                try simp only [Act.put, List.setIfInBounds_toArray, List.set_cons_zero, List.set_cons_succ]
                refine wpAnyH_take (i := 11) (oi := { dst := some 7, op := Op.assign (Operand.tmp 69), type := 23, pos := "point.go:148", after := #[{ on := 9, ground := Ground.data }, { on := 7, ground := Ground.chain }, { on := 0, ground := Ground.phase }, { on := 1, ground := Ground.phase }, { on := 2, ground := Ground.phase }, { on := 3, ground := Ground.phase }, { on := 4, ground := Ground.phase }, { on := 5, ground := Ground.phase }, { on := 6, ground := Ground.phase }, { on := 7, ground := Ground.phase }, { on := 8, ground := Ground.phase }, { on := 9, ground := Ground.phase }, { on := 10, ground := Ground.textOnly Departure.lateStores }], guard := none }) (v := ?_) rfl (by kernel_rfl) (by kernel_rfl) (by kernel_rfl) (fun _ _ _ h => h) (Or.inl ⟨by rfl, ?_⟩) (by assumption) ?_
                rotate_left
                · (intro w hSw; (try dsimp only at hSw); go_simp; try with_reducible rfl)
                try simp only [Act.put, List.setIfInBounds_toArray, List.set_cons_zero, List.set_cons_succ]
                refine wpAnyH_take (i := 12) (oi := { dst := some 8, op := Op.assign (Operand.tmp 70), type := 4, pos := "point.go:148", after := #[{ on := 10, ground := Ground.data }, { on := 11, ground := Ground.chain }, { on := 0, ground := Ground.phase }, { on := 1, ground := Ground.phase }, { on := 2, ground := Ground.phase }, { on := 3, ground := Ground.phase }, { on := 4, ground := Ground.phase }, { on := 5, ground := Ground.phase }, { on := 6, ground := Ground.phase }, { on := 7, ground := Ground.phase }, { on := 8, ground := Ground.phase }, { on := 9, ground := Ground.phase }, { on := 10, ground := Ground.phase }, { on := 11, ground := Ground.phase }], guard := none }) (v := ?_) rfl (by kernel_rfl) (by kernel_rfl) (by kernel_rfl) (fun _ _ _ h => h) (Or.inl ⟨by rfl, ?_⟩) (by assumption) ?_
                rotate_left
                · (intro w hSw; (try dsimp only at hSw); go_simp; try with_reducible rfl)
                try simp only [Act.put, List.setIfInBounds_toArray, List.set_cons_zero, List.set_cons_succ]
                refine wpAnyH_done (by kernel_rfl) ?_ _
                refine NoPanic.normal ?_
                clear hHeld
                go_wp2_with fail
                rw [HN.out]
                refine bodyPost_ret (v := .tuple #[.complex .f64 a b, .int .i64 0]) (by simp [results, Tryd.results42, go_sem]) rfl ⟨rfl, W1.out⟩
            · have r1 : (l.drop e == [105]) = false := beq_eq_false_iff_ne.2 h105
              have HN : Hid (ppV l = .tuple #[.complex .f64 0 0, .int .i64 2]) := Lib.hid (ppV_none (by unfold ppS; rw [HF.out]; dsimp only; rw [HE.out, if_pos (.inr h105)]))
              clear h105 hef
              go_wp2_with fail
              rw [HN.out]
              refine bodyPost_ret (v := .tuple #[.complex .f64 0 0, .int .i64 2]) (by simp [results, Tryd.results42, go_sem]) rfl ⟨rfl, Below.refl _ _⟩
      · have hc43 : c.toNat ≠ 43 := fun h => h43 (UInt8.toNat_inj.1 h)
        have u1 : ((c.toNat : Int) == 43) = false := by simp; omega
        have u2 : decide ((c.toNat : Int) = 43) = false := decide_eq_false (by omega)
        have x1 : ((c.toNat : Int) != 43) = true := by simp; omega
        by_cases h45 : c = 45
        · have v1 : ((c.toNat : Int) == 45) = true := by rw [h45]; rfl
          have v2 : decide ((c.toNat : Int) = 45) = true := by rw [h45]; rfl
          have x2 : ((c.toNat : Int) != 45) = false := by rw [h45]; rfl
          have HF : Hid (pFrom l = some n) := Lib.hid (by
            unfold pFrom; rw [HPN.out, if_neg hn0, HC.out]; dsimp only; rw [if_neg h43, if_pos h45])
          clear hn0 h43 h45 hc43
          go_enter Tryd.func42, Tryd.ntmps42
          go_wp2_with fail
          refine (HPE0.out _).mono ?_
          rintro e w1 ⟨rfl, rfl⟩
          go_wp2_with fail
          have hfm : n ≤ m := by omega
          refine (Tryd.partEnd l n (by rw [← HM.out]; exact hfm) (by rw [← HM.out]; omega) _).mono ?_
          rintro e w2 ⟨rfl, rfl⟩
          have hle := pEnd_le l n (by rw [← HM.out]; exact hfm)
          obtain ⟨e, he⟩ : ∃ e, pEnd l n = e := ⟨_, rfl⟩
          rw [he]
          rw [he, ← HM.out] at hle
          have HE := Lib.hid he
          have he1 : n ≤ e := hle.1
          have he2 : e ≤ m := hle.2
          have he1I : (n : Int) ≤ e := by omega
          have he2I : (e : Int) ≤ m := by omega
          have he0I : (0 : Int) ≤ e := by omega
          clear he hle
          by_cases hef : e = n
          · have HN : Hid (ppV l = .tuple #[.complex .f64 0 0, .int .i64 2]) := Lib.hid (ppV_none (by unfold ppS; rw [HF.out]; dsimp only; rw [HE.out, if_pos (.inl hef)]))
            have q1 : ((e : Int) == n) = true := by rw [hef]; simp
            have q2 : decide ((e : Int) = n) = true := by rw [hef]; simp
            clear hef
            go_wp2_with fail
            rw [HN.out]
            refine bodyPost_ret (v := .tuple #[.complex .f64 0 0, .int .i64 2]) (by simp [results, Tryd.results42, go_sem]) rfl ⟨rfl, Below.refl _ _⟩
          · have q1 : ((e : Int) == n) = false := by simp; omega
            have q2 : decide ((e : Int) = n) = false := decide_eq_false (by omega)
            have hxe : (bs l).extract e m = bs (l.drop e) := by
              rw [bs_ext, List.take_of_length_le (by rw [List.length_drop, HM.out]; omega)]
            by_cases h105 : l.drop e = [105]
            · have r1 : (l.drop e == [105]) = true := by rw [h105]; simp
              obtain ⟨X, hX⟩ : ∃ X, X = l.take n := ⟨_, rfl⟩
              obtain ⟨Y, hY⟩ : ∃ Y, Y = (l.drop n).take (e - n) := ⟨_, rfl⟩
              have hxX : (bs l).extract 0 n = bs X := by rw [bs_ext, hX]; rfl
              have hxY : (bs l).extract n e = bs Y := by rw [bs_ext, hY]
              have HXL : Hid (X.length < 2 ^ 40) := Lib.hid (by rw [hX, List.length_take, ← HM.out]; omega)
              have HYL : Hid (Y.length < 2 ^ 40) := Lib.hid (by rw [hY, List.length_take, List.length_drop, ← HM.out]; omega)
              have HV : Hid (ppV l = match ptOf X Y with
              | some (a, b) => .tuple #[.complex .f64 a b, .int .i64 0]
              | none => .tuple #[.complex .f64 0 0, .int .i64 1]) := Lib.hid (by
                unfold ppV ppS; rw [HF.out]; dsimp only; rw [HE.out, if_neg (by rintro (h | h); exact hef h; exact h h105), HPN.out, ← hX, ← hY])
              clear hX hY h105 hef
              go_upto_region 12 with fail
              refine wp_region_noPanic ?_
              refine wp_region_held_drew (S := (fun _ => True)) (by kernel_rfl) ?_ (fun hHeld => ?_)
              · trivial
              refine wpAnyH_take (i := 0) (oi := { dst := some 61, op := Op.move (Operand.tmp 0), type := 9, pos := "point.go:148", after := #[], guard := none }) (v := ?_) rfl (by kernel_rfl) (by kernel_rfl) (by kernel_rfl) (fun _ _ _ h => h) (Or.inl ⟨by rfl, ?_⟩) (by assumption) ?_
              rotate_left
              · (intro w hSw; (try dsimp only at hSw); go_simp; try with_reducible rfl)
              try simp only [Act.put, List.setIfInBounds_toArray, List.set_cons_zero, List.set_cons_succ]
              refine wpAnyH_take (i := 1) (oi := { dst := some 62, op := Op.move (Operand.tmp 4), type := 3, pos := "point.go:148", after := #[], guard := none }) (v := ?_) rfl (by kernel_rfl) (by kernel_rfl) (by kernel_rfl) (fun _ _ _ h => h) (Or.inl ⟨by rfl, ?_⟩) (by assumption) ?_
              rotate_left
              · (intro w hSw; (try dsimp only at hSw); go_simp; try with_reducible rfl)
              try simp only [Act.put, List.setIfInBounds_toArray, List.set_cons_zero, List.set_cons_succ]
              refine wpAnyH_take (i := 2) (oi := { dst := some 63, op := Op.slice 9 (Operand.tmp 61) none (some (Operand.tmp 62)) none, type := 9, pos := "point.go:148", after := #[{ on := 0, ground := Ground.data }, { on := 1, ground := Ground.data }], guard := none }) (v := ?_) rfl (by kernel_rfl) (by kernel_rfl) (by kernel_rfl) (fun _ _ _ h => h) (Or.inl ⟨by rfl, ?_⟩) (by assumption) ?_
              rotate_left
              · (intro w hSw; (try dsimp only at hSw); go_simp; try with_reducible rfl)
              try simp only [Act.put, List.setIfInBounds_toArray, List.set_cons_zero, List.set_cons_succ]
              refine wpAnyH_take (i := 3) (oi := { dst := some 64, op := Op.move (Operand.tmp 0), type := 9, pos := "point.go:148", after := #[], guard := none }) (v := ?_) rfl (by kernel_rfl) (by kernel_rfl) (by kernel_rfl) (fun _ _ _ h => h) (Or.inl ⟨by rfl, ?_⟩) (by assumption) ?_
              rotate_left
              · (intro w hSw; (try dsimp only at hSw); go_simp; try with_reducible rfl)
              try simp only [Act.put, List.setIfInBounds_toArray, List.set_cons_zero, List.set_cons_succ]
              refine wpAnyH_take (i := 4) (oi := { dst := some 65, op := Op.move (Operand.tmp 5), type := 3, pos := "point.go:148", after := #[], guard := none }) (v := ?_) rfl (by kernel_rfl) (by kernel_rfl) (by kernel_rfl) (fun _ _ _ h => h) (Or.inl ⟨by rfl, ?_⟩) (by assumption) ?_
              rotate_left
              · (intro w hSw; (try dsimp only at hSw); go_simp; try with_reducible rfl)
              try simp only [Act.put, List.setIfInBounds_toArray, List.set_cons_zero, List.set_cons_succ]
              refine wpAnyH_take (i := 5) (oi := { dst := some 66, op := Op.move (Operand.tmp 6), type := 3, pos := "point.go:148", after := #[], guard := none }) (v := ?_) rfl (by kernel_rfl) (by kernel_rfl) (by kernel_rfl) (fun _ _ _ h => h) (Or.inl ⟨by rfl, ?_⟩) (by assumption) ?_
              rotate_left
              · (intro w hSw; (try dsimp only at hSw); go_simp; try with_reducible rfl)
              try simp only [Act.put, List.setIfInBounds_toArray, List.set_cons_zero, List.set_cons_succ]
              refine wpAnyH_take (i := 6) (oi := { dst := some 67, op := Op.slice 9 (Operand.tmp 64) (some (Operand.tmp 65)) (some (Operand.tmp 66)) none, type := 9, pos := "point.go:148", after := #[{ on := 3, ground := Ground.data }, { on := 4, ground := Ground.data }, { on := 5, ground := Ground.data }], guard := none }) (v := ?_) rfl (by kernel_rfl) (by kernel_rfl) (by kernel_rfl) (fun _ _ _ h => h) (Or.inl ⟨by rfl, ?_⟩) (by assumption) ?_
              rotate_left
              · (intro w hSw; (try dsimp only at hSw); go_simp; try with_reducible rfl)
              try simp only [Act.put, List.setIfInBounds_toArray, List.set_cons_zero, List.set_cons_succ]
              refine wpAnyH_ready (rs := [7]) (by kernel_rfl) (by simp) ?_
              refine AllReadyH.cons (o := { dst := some 68, op := Op.call { callee := Callee.value (Operand.func 56), args := #[Operand.tmp 63, Operand.tmp 67], argTypes := #[9, 9] }, type := 81, pos := "point.go:148", after := #[{ on := 2, ground := Ground.data }, { on := 6, ground := Ground.data }], guard := none }) rfl (fun K hK => ?_) AllReadyH.nil
              go_simp
              refine (Tryd.partsC (HD.out.on ((Below.refl B w).drew)) hB X Y HXL.out HYL.out).mono ?_
              rintro e V1 ⟨rfl, hb⟩
              have W1 := Lib.hid ((Below.refl w.heap.size w).drew.trans hb)
              clear hb
              refine hK.out _ _ ?_ (fun hHeld => ?_)
              · trivial
              clear hK K
              try simp only [Act.put, List.setIfInBounds_toArray, List.set_cons_zero, List.set_cons_succ]
              refine wpAnyH_take (i := 8) (oi := { dst := some 60, op := Op.move (Operand.tmp 68), type := 81, pos := "point.go:148", after := #[{ on := 7, ground := Ground.data }], guard := none }) (v := ?_) rfl (by kernel_rfl) (by kernel_rfl) (by kernel_rfl) (fun _ _ _ h => h) (Or.inl ⟨by rfl, ?_⟩) (by assumption) ?_
              rotate_left
              · (intro w hSw; (try dsimp only at hSw); go_simp; try with_reducible rfl)
              try simp only [Act.put, List.setIfInBounds_toArray, List.set_cons_zero, List.set_cons_succ]
              rcases hp : ptOf X Y with _ | ⟨a, b⟩
              · have HN : Hid (ppV l = .tuple #[.complex .f64 0 0, .int .i64 1]) := Lib.hid (by rw [HV.out, hp])
                rw [show ptV none = .tuple #[.complex .f64 0 0, .bool false] from rfl]
                clear hp
                refine wpAnyH_take (i := 9) (oi := { dst := some 69, op := Op.extract (Operand.tmp 60) 0, type := 23, pos := "point.go:148", after := #[{ on := 8, ground := Ground.data }], guard := none }) (v := ?_) rfl (by kernel_rfl) (by kernel_rfl) (by kernel_rfl) (fun _ _ _ h => h) (Or.inl ⟨by rfl, ?_⟩) (by assumption) ?_
                rotate_left
                · (intro w hSw; (try dsimp only at hSw); go_simp; try with_reducible rfl)
                try simp only [Act.put, List.setIfInBounds_toArray, List.set_cons_zero, List.set_cons_succ]
                refine wpAnyH_take (i := 10) (oi := { dst := some 70, op := Op.extract (Operand.tmp 60) 1, type := 4, pos := "point.go:148", after := #[{ on := 8, ground := Ground.data }, { on := 11, ground := Ground.gcOnly Departure.lateStores }], guard := none }) (v := ?_) rfl (by kernel_rfl) (by kernel_rfl) (by kernel_rfl) (fun _ _ _ h => h) (Or.inl ⟨by rfl, ?_⟩) (by assumption) ?_
                rotate_left
                · (intro w hSw; (try dsimp only at hSw); go_simp; try with_reducible rfl)
                try simp only [Act.put, List.setIfInBounds_toArray, List.set_cons_zero, List.set_cons_succ]
                refine wpAnyH_take (i := 11) (oi := { dst := some 7, op := Op.assign (Operand.tmp 69), type := 23, pos := "point.go:148", after := #[{ on := 9, ground := Ground.data }, { on := 7, ground := Ground.chain }, { on := 0, ground := Ground.phase }, { on := 1, ground := Ground.phase }, { on := 2, ground := Ground.phase }, { on := 3, ground := Ground.phase }, { on := 4, ground := Ground.phase }, { on := 5, ground := Ground.phase }, { on := 6, ground := Ground.phase }, { on := 7, ground := Ground.phase }, { on := 8, ground := Ground.phase }, { on := 9, ground := Ground.phase }, { on := 10, ground := Ground.textOnly Departure.lateStores }], guard := none }) (v := ?_) rfl (by kernel_rfl) (by kernel_rfl) (by kernel_rfl) (fun _ _ _ h => h) (Or.inl ⟨by rfl, ?_⟩) (by assumption) ?_
                rotate_left
                · (intro w hSw; (try dsimp only at hSw); go_simp; try with_reducible rfl)
                try simp only [Act.put, List.setIfInBounds_toArray, List.set_cons_zero, List.set_cons_succ]
                refine wpAnyH_take (i := 12) (oi := { dst := some 8, op := Op.assign (Operand.tmp 70), type := 4, pos := "point.go:148", after := #[{ on := 10, ground := Ground.data }, { on := 11, ground := Ground.chain }, { on := 0, ground := Ground.phase }, { on := 1, ground := Ground.phase }, { on := 2, ground := Ground.phase }, { on := 3, ground := Ground.phase }, { on := 4, ground := Ground.phase }, { on := 5, ground := Ground.phase }, { on := 6, ground := Ground.phase }, { on := 7, ground := Ground.phase }, { on := 8, ground := Ground.phase }, { on := 9, ground := Ground.phase }, { on := 10, ground := Ground.phase }, { on := 11, ground := Ground.phase }], guard := none }) (v := ?_) rfl (by kernel_rfl) (by kernel_rfl) (by kernel_rfl) (fun _ _ _ h => h) (Or.inl ⟨by rfl, ?_⟩) (by assumption) ?_
                rotate_left
                · (intro w hSw; (try dsimp only at hSw); go_simp; try with_reducible rfl)
                try simp only [Act.put, List.setIfInBounds_toArray, List.set_cons_zero, List.set_cons_succ]
                refine wpAnyH_done (by kernel_rfl) ?_ _
                refine NoPanic.normal ?_
                clear hHeld
                go_wp2_with fail
                rw [HN.out]
                refine bodyPost_ret (v := .tuple #[.complex .f64 0 0, .int .i64 1]) (by simp [results, Tryd.results42, go_sem]) rfl ⟨rfl, W1.out⟩
              · have HN : Hid (ppV l = .tuple #[.complex .f64 a b, .int .i64 0]) := Lib.hid (by rw [HV.out, hp])
                rw [show ptV (some (a, b)) = .tuple #[.complex .f64 a b, .bool true] from rfl]
                clear hp
                refine wpAnyH_take (i := 9) (oi := { dst := some 69, op := Op.extract (Operand.tmp 60) 0, type := 23, pos := "point.go:148", after := #[{ on := 8, ground := Ground.data }], guard := none }) (v := ?_) rfl (by kernel_rfl) (by kernel_rfl) (by kernel_rfl) (fun _ _ _ h => h) (Or.inl ⟨by rfl, ?_⟩) (by assumption) ?_
                rotate_left
                · (intro w hSw; (try dsimp only at hSw); go_simp; try with_reducible rfl)
                try simp only [Act.put, List.setIfInBounds_toArray, List.set_cons_zero, List.set_cons_succ]
                refine wpAnyH_take (i := 10) (oi := { dst := some 70, op := Op.extract (Operand.tmp 60) 1, type := 4, pos := "point.go:148", after := #[{ on := 8, ground := Ground.data }, { on := 11, ground := Ground.gcOnly Departure.lateStores }], guard := none }) (v := ?_) rfl (by kernel_rfl) (by kernel_rfl) (by kernel_rfl) (fun _ _ _ h => h) (Or.inl ⟨by rfl, ?_⟩) (by assumption) ?_
                rotate_left
                · (intro w hSw; (try dsimp only at hSw); go_simp; try with_reducible rfl)
                try simp only [Act.put, List.setIfInBounds_toArray, List.set_cons_zero, List.set_cons_succ]
                refine wpAnyH_take (i := 11) (oi := { dst := some 7, op := Op.assign (Operand.tmp 69), type := 23, pos := "point.go:148", after := #[{ on := 9, ground := Ground.data }, { on := 7, ground := Ground.chain }, { on := 0, ground := Ground.phase }, { on := 1, ground := Ground.phase }, { on := 2, ground := Ground.phase }, { on := 3, ground := Ground.phase }, { on := 4, ground := Ground.phase }, { on := 5, ground := Ground.phase }, { on := 6, ground := Ground.phase }, { on := 7, ground := Ground.phase }, { on := 8, ground := Ground.phase }, { on := 9, ground := Ground.phase }, { on := 10, ground := Ground.textOnly Departure.lateStores }], guard := none }) (v := ?_) rfl (by kernel_rfl) (by kernel_rfl) (by kernel_rfl) (fun _ _ _ h => h) (Or.inl ⟨by rfl, ?_⟩) (by assumption) ?_
                rotate_left
                · (intro w hSw; (try dsimp only at hSw); go_simp; try with_reducible rfl)
                try simp only [Act.put, List.setIfInBounds_toArray, List.set_cons_zero, List.set_cons_succ]
                refine wpAnyH_take (i := 12) (oi := { dst := some 8, op := Op.assign (Operand.tmp 70), type := 4, pos := "point.go:148", after := #[{ on := 10, ground := Ground.data }, { on := 11, ground := Ground.chain }, { on := 0, ground := Ground.phase }, { on := 1, ground := Ground.phase }, { on := 2, ground := Ground.phase }, { on := 3, ground := Ground.phase }, { on := 4, ground := Ground.phase }, { on := 5, ground := Ground.phase }, { on := 6, ground := Ground.phase }, { on := 7, ground := Ground.phase }, { on := 8, ground := Ground.phase }, { on := 9, ground := Ground.phase }, { on := 10, ground := Ground.phase }, { on := 11, ground := Ground.phase }], guard := none }) (v := ?_) rfl (by kernel_rfl) (by kernel_rfl) (by kernel_rfl) (fun _ _ _ h => h) (Or.inl ⟨by rfl, ?_⟩) (by assumption) ?_
                rotate_left
                · (intro w hSw; (try dsimp only at hSw); go_simp; try with_reducible rfl)
                try simp only [Act.put, List.setIfInBounds_toArray, List.set_cons_zero, List.set_cons_succ]
                refine wpAnyH_done (by kernel_rfl) ?_ _
                refine NoPanic.normal ?_
                clear hHeld
                go_wp2_with fail
                rw [HN.out]
                refine bodyPost_ret (v := .tuple #[.complex .f64 a b, .int .i64 0]) (by simp [results, Tryd.results42, go_sem]) rfl ⟨rfl, W1.out⟩
            · have r1 : (l.drop e == [105]) = false := beq_eq_false_iff_ne.2 h105
              have HN : Hid (ppV l = .tuple #[.complex .f64 0 0, .int .i64 2]) := Lib.hid (ppV_none (by unfold ppS; rw [HF.out]; dsimp only; rw [HE.out, if_pos (.inr h105)]))
              clear h105 hef
              go_wp2_with fail
              rw [HN.out]
              refine bodyPost_ret (v := .tuple #[.complex .f64 0 0, .int .i64 2]) (by simp [results, Tryd.results42, go_sem]) rfl ⟨rfl, Below.refl _ _⟩
        · have hc45 : c.toNat ≠ 45 := fun h => h45 (UInt8.toNat_inj.1 h)
          have v1 : ((c.toNat : Int) == 45) = false := by simp; omega
          have v2 : decide ((c.toNat : Int) = 45) = false := decide_eq_false (by omega)
          have x2 : ((c.toNat : Int) != 45) = true := by simp; omega
          have HN : Hid (ppV l = .tuple #[.complex .f64 0 0, .int .i64 2]) := Lib.hid (ppV_none (by
            unfold ppS pFrom; rw [HPN.out, if_neg hn0, HC.out]; dsimp only; rw [if_neg h43, if_neg h45]))
          clear hn0 h43 h45 hc43 hc45
          go_enter Tryd.func42, Tryd.ntmps42
          go_wp2_with fail
          refine (HPE0.out _).mono ?_
          rintro e w1 ⟨rfl, rfl⟩
          go_wp2_with fail
          rw [HN.out]
          refine bodyPost_ret (v := .tuple #[.complex .f64 0 0, .int .i64 2]) (by simp [results, Tryd.results42, go_sem]) rfl ⟨rfl, Below.refl _ _⟩
end Go.Proofs.YtlgabpcjhhihdaaDoor
end

section
namespace Go.Proofs.YtlgabpcjhhihdaaDoor
open Go.Lib
def Form (l X Y : List UInt8) : Prop := decB X = true ∧ decB Y = true ∧ ((l = X ++ 43 :: (Y ++ [105]) ∧ Y.head? ≠ some 45) ∨ (l = X ++ (Y ++ [105]) ∧ Y.head? = some 45))
theorem dec_ne' {Y : List UInt8} (h : decB Y = true) : ∃ c r, Y = c :: r := by
  obtain ⟨c, r, hb, ha, h45, h43, h | h⟩ := decB_cases h
  · exact ⟨_, _, h.1⟩
  · exact ⟨_, _, h.1⟩
theorem ppS_form {l X Y : List UInt8} (h : Form l X Y) : ppS l = some (X, Y) := by
  obtain ⟨hX, hY, h⟩ := h
  obtain ⟨x, xr, rfl⟩ := dec_ne' hX
  obtain ⟨y, yr, rfl⟩ := dec_ne' hY
  rcases h with ⟨h, h45⟩ | ⟨h, h45⟩
  · have hn : pEnd l 0 = (x :: xr).length := by
      rw [pEnd_of (X := x :: xr) (s := 43 :: ((y :: yr) ++ [105])) (by rw [List.drop_zero, h]) hX (by intro z hz; simp at hz; rw [← hz]; rfl)]
      omega
    have hl2 : l = ((x :: xr) ++ [43]) ++ ((y :: yr) ++ [105]) := by rw [h]; simp
    have hf : pFrom l = some ((x :: xr).length + 1) := by
      unfold pFrom
      rw [hn, if_neg (by simp), show l[(x :: xr).length]? = some 43 from by rw [h, List.getElem?_append_right (Nat.le_refl _), Nat.sub_self]; rfl]
      dsimp only
      rw [if_pos rfl, if_neg]
      rw [hl2, List.getElem?_append_right (by simp), show (x :: xr).length + 1 - ((x :: xr) ++ [(43 : UInt8)]).length = 0 from by simp]
      simpa using h45
    have hd : l.drop ((x :: xr).length + 1) = (y :: yr) ++ [105] := by
      rw [hl2, show (x :: xr).length + 1 = ((x :: xr) ++ [43]).length from by simp, List.drop_left]
    have he := pEnd_of (a := (x :: xr).length + 1) hd hY (by intro z hz; simp at hz; rw [← hz]; rfl)
    unfold ppS
    rw [hf]
    dsimp only
    rw [he, hn, if_neg, h, List.take_left, ← h, hd, show (x :: xr).length + 1 + (y :: yr).length - ((x :: xr).length + 1) = (y :: yr).length from by omega, List.take_left]
    rw [← List.drop_drop, hd, List.drop_left]
    simp
  · have hn : pEnd l 0 = (x :: xr).length := by
      rw [pEnd_of (X := x :: xr) (s := (y :: yr) ++ [105]) (by rw [List.drop_zero, h]) hX (by intro z hz; simp at hz h45; rw [← hz, h45]; rfl)]
      omega
    have hf : pFrom l = some (x :: xr).length := by
      unfold pFrom
      rw [hn, if_neg (by simp), show l[(x :: xr).length]? = some 45 from by rw [h, List.getElem?_append_right (Nat.le_refl _), Nat.sub_self]; simpa using h45]
      dsimp only
      rw [if_neg (by decide), if_pos rfl]
    have hd : l.drop (x :: xr).length = (y :: yr) ++ [105] := by
      rw [h, List.drop_left]
    have he := pEnd_of (a := (x :: xr).length) hd hY (by intro z hz; simp at hz; rw [← hz]; rfl)
    unfold ppS
    rw [hf]
    dsimp only
    rw [he, hn, if_neg, h, List.take_left, ← h, hd, show (x :: xr).length + (y :: yr).length - (x :: xr).length = (y :: yr).length from by omega, List.take_left]
    rw [← List.drop_drop, hd, List.drop_left]
    simp
theorem form_ppS {l X Y : List UInt8} (h : ppS l = some (X, Y)) : Form l X Y := by
  unfold ppS at h
  rcases hf : pFrom l with _ | f
  · rw [hf] at h; cases h
  · rw [hf] at h
    dsimp only at h
    split at h
    · cases h
    · rename_i hn
      simp only [not_or, Classical.not_not] at hn
      injection h with h
      injection h with h1 h2
      have hY0 := pEnd_dec rfl hn.1
      have hlY : l.drop f = Y ++ [105] := by
        rw [← h2, ← hn.2, show pEnd l f = f + (pEnd l f - f) from by omega, ← List.drop_drop, show f + (pEnd l f - f) - f = pEnd l f - f from by omega, List.take_append_drop]
      rw [h2] at hY0
      unfold pFrom at hf
      split at hf
      · cases hf
      · rename_i hn0
        have hX0 := pEnd_dec rfl hn0
        rw [List.drop_zero, Nat.sub_zero, h1] at hX0
        obtain ⟨y, yr, hYe⟩ := dec_ne' hY0.2.2
        have hlX : l = X ++ l.drop (pEnd l 0) := by rw [← h1, List.take_append_drop]
        rcases hc : l[pEnd l 0]? with _ | c
        · rw [hc] at hf; cases hf
        · rw [hc] at hf
          dsimp only at hf
          obtain ⟨hcl, hce⟩ := List.getElem?_eq_some_iff.1 hc
          split at hf
          · rename_i h43
            split at hf
            · cases hf
            · rename_i hm
              injection hf with hf
              refine ⟨hX0.2.2, hY0.2.2, .inl ⟨?_, ?_⟩⟩
              · rw [← hlY, ← hf, ← h43, ← hce, ← List.drop_eq_getElem_cons hcl, ← hlX]
              · rw [hf] at hm
                have : l[f]? = Y.head? := by
                  have : (l.drop f)[0]? = (Y ++ [105])[0]? := by rw [hlY]
                  rw [List.getElem?_drop, Nat.add_zero] at this
                  rw [this, hYe]
                  rfl
                rw [← this]; exact hm
          · split at hf
            · rename_i h45
              injection hf with hf
              refine ⟨hX0.2.2, hY0.2.2, .inr ⟨?_, ?_⟩⟩
              · rw [← hlY, ← hf, ← hlX]
              · have : (l.drop f)[0]? = (Y ++ [105])[0]? := by rw [hlY]
                rw [List.getElem?_drop, Nat.add_zero, ← hf, hc, h45, hYe] at this
                rw [hYe]
                exact this.symm
            · cases hf
theorem dec_tail {X : List UInt8} (h : decB X = true) : ∀ j y, 1 ≤ j → X[j]? = some y → dig y = true := by
  obtain ⟨c, r, hb, ha, h45, h43, ⟨rfl, _⟩ | ⟨rfl, _⟩⟩ := decB_cases h
  · intro j y hj hy
    rw [List.all_eq_true] at ha
    exact ha y (List.mem_of_getElem? hy)
  · intro j y hj hy
    rw [List.all_eq_true] at ha
    match j, hj with
    | j + 1, _ => exact ha y (List.mem_of_getElem? (by simpa using hy))
theorem dig_43 {y : UInt8} (h : dig y = true) : y ≠ 43 ∧ y ≠ 45 := ⟨dig_no h rfl, dig_no h rfl⟩
theorem form_at {l X Y : List UInt8} (h : Form l X Y) : 4 ≤ l.length ∧ 1 ≤ X.length ∧ X.length + 1 < l.length ∧ (∃ y, l[X.length]? = some y ∧ (y = 43 ∨ y = 45)) ∧ (∀ j y, 1 ≤ j → j < X.length → l[j]? = some y → y ≠ 43 ∧ y ≠ 45) := by
  obtain ⟨hX, hY, h⟩ := h
  have hX1 : 1 ≤ X.length := by obtain ⟨x, xr, rfl⟩ := dec_ne' hX; simp
  have hY1 : 1 ≤ Y.length := by obtain ⟨y, yr, rfl⟩ := dec_ne' hY; simp
  rcases h with ⟨rfl, h45⟩ | ⟨rfl, h45⟩
  · refine ⟨by simp only [List.length_append, List.length_cons, List.length_nil]; omega, hX1, by simp only [List.length_append, List.length_cons, List.length_nil]; omega, ⟨43, by rw [List.getElem?_append_right (Nat.le_refl _), Nat.sub_self]; rfl, .inl rfl⟩, fun j y hj hjX hy => ?_⟩
    rw [List.getElem?_append_left hjX] at hy
    exact dig_43 (dec_tail hX j y hj hy)
  · have hY2 : 2 ≤ Y.length := by
      obtain ⟨c, r, hb, ha, h45', h43, ⟨rfl, _⟩ | ⟨rfl, _⟩⟩ := decB_cases hY
      · simp at h45; exact absurd h45 h45'
      · simp
    refine ⟨by simp only [List.length_append, List.length_cons, List.length_nil]; omega, hX1, by simp only [List.length_append, List.length_cons, List.length_nil]; omega, ⟨45, ?_, .inr rfl⟩, fun j y hj hjX hy => ?_⟩
    · obtain ⟨y, yr, rfl⟩ := dec_ne' hY
      rw [List.getElem?_append_right (Nat.le_refl _), Nat.sub_self]
      simpa using h45
    · rw [List.getElem?_append_left hjX] at hy
      exact dig_43 (dec_tail hX j y hj hy)
theorem form_k {l X Y : List UInt8} {k : Nat} {c : UInt8} (h : Form l X Y) (hk : 1 ≤ k) (hc : l[k]? = some c) (hcs : c = 43 ∨ c = 45) (hno : ∀ j y, 1 ≤ j → j < k → l[j]? = some y → y ≠ 43 ∧ y ≠ 45) :
    X = l.take k ∧ (c = 43 → Y = (l.drop (k + 1)).take (l.length - 1 - (k + 1)) ∧ Y.head? ≠ some 45) ∧ (c = 45 → Y = (l.drop k).take (l.length - 1 - k)) := by
  obtain ⟨h4, hX1, hXl, ⟨y, hy, hys⟩, hXno⟩ := form_at h
  have hXk : X.length = k := by
    rcases Nat.lt_trichotomy X.length k with hlt | heq | hgt
    · have := hno _ y hX1 hlt hy
      rcases hys with h | h
      · exact absurd h this.1
      · exact absurd h this.2
    · exact heq
    · have := hXno _ c hk hgt hc
      rcases hcs with h | h
      · exact absurd h this.1
      · exact absurd h this.2
  subst hXk
  obtain ⟨hX, hY, h⟩ := h
  rw [hy] at hc
  injection hc with hc
  subst hc
  rcases h with ⟨rfl, h45⟩ | ⟨rfl, h45⟩
  · have hy43 : y = 43 := by
      rw [List.getElem?_append_right (Nat.le_refl _), Nat.sub_self] at hy
      simpa using hy.symm
    refine ⟨by rw [List.take_left], fun _ => ⟨?_, h45⟩, fun h => by rw [hy43] at h; exact absurd h (by decide)⟩
    rw [show X ++ 43 :: (Y ++ [105]) = (X ++ [43]) ++ (Y ++ [105]) from by simp, show X.length + 1 = (X ++ [(43 : UInt8)]).length from by simp, List.drop_left, show ((X ++ [(43 : UInt8)]) ++ (Y ++ [(105 : UInt8)])).length - 1 - (X ++ [(43 : UInt8)]).length = Y.length from by simp only [List.length_append, List.length_cons, List.length_nil]; omega, List.take_left]
  · have hy45 : y = 45 := by
      obtain ⟨z, zr, rfl⟩ := dec_ne' hY
      rw [List.getElem?_append_right (Nat.le_refl _), Nat.sub_self] at hy
      simp at hy h45
      rw [← hy, h45]
    refine ⟨by rw [List.take_left], fun h => by rw [hy45] at h; exact absurd h (by decide), fun _ => ?_⟩
    rw [List.drop_left, show (X ++ (Y ++ [(105 : UInt8)])).length - 1 - X.length = Y.length from by simp only [List.length_append, List.length_cons, List.length_nil]; omega, List.take_left]
theorem split_last {l : List UInt8} (h : l.getLast? = some 105) (a : Nat) (ha : a + 1 ≤ l.length) : l.drop a = (l.drop a).take (l.length - 1 - a) ++ [105] := by
  obtain ⟨p, rfl⟩ : ∃ p, l = p ++ [105] := by
    rcases List.eq_nil_or_concat l with rfl | ⟨p, x, rfl⟩
    · cases h
    · rw [List.concat_eq_append] at h ⊢
      rw [List.getLast?_concat] at h
      injection h with h
      exact ⟨p, by rw [h]⟩
  rw [List.length_append] at ha
  simp only [List.length_cons, List.length_nil] at ha
  rw [List.drop_append_of_le_length (by omega), show (p ++ [(105 : UInt8)]).length - 1 - a = (p.drop a).length from by simp, List.take_left]
theorem form_mk1 {l : List UInt8} {k : Nat} (hl : l.getLast? = some 105) (hc : l[k]? = some 43) (hk : k + 1 < l.length) (hX : decB (l.take k) = true) (hY : decB ((l.drop (k + 1)).take (l.length - 1 - (k + 1))) = true) (h45 : ((l.drop (k + 1)).take (l.length - 1 - (k + 1))).head? ≠ some 45) : Form l (l.take k) ((l.drop (k + 1)).take (l.length - 1 - (k + 1))) := by
  refine ⟨hX, hY, .inl ⟨?_, h45⟩⟩
  obtain ⟨hkl, hce⟩ := List.getElem?_eq_some_iff.1 hc
  rw [← split_last hl (k + 1) (by omega), ← hce, ← List.drop_eq_getElem_cons hkl, List.take_append_drop]
theorem form_mk2 {l : List UInt8} {k : Nat} (hl : l.getLast? = some 105) (hc : l[k]? = some 45) (hk : k + 1 < l.length) (hX : decB (l.take k) = true) (hY : decB ((l.drop k).take (l.length - 1 - k)) = true) : Form l (l.take k) ((l.drop k).take (l.length - 1 - k)) := by
  refine ⟨hX, hY, .inr ⟨?_, ?_⟩⟩
  · rw [← split_last hl k (by omega), List.take_append_drop]
  · obtain ⟨hkl, hce⟩ := List.getElem?_eq_some_iff.1 hc
    rw [List.drop_eq_getElem_cons hkl, hce, show l.length - 1 - k = (l.length - 2 - k) + 1 from by omega, List.take_succ_cons]
    rfl
def rpt (l : List UInt8) : Value := match ppS l with
  | none => .tuple #[.complex .f64 0 0, .int .i64 2]
  | some (x, y) => match ptOf x y with
    | some (a, b) => .tuple #[.complex .f64 a b, .int .i64 0]
    | none => .tuple #[.complex .f64 0 0, .int .i64 1]
theorem rpt_no {l : List UInt8} (h : ∀ X Y, ¬ Form l X Y) : rpt l = .tuple #[.complex .f64 0 0, .int .i64 2] := by
  unfold rpt
  rcases hp : ppS l with _ | ⟨x, y⟩
  · rfl
  · exact absurd (form_ppS hp) (h _ _)
theorem rpt_yes {l X Y : List UInt8} (h : Form l X Y) : rpt l = match ptOf X Y with
    | some (a, b) => .tuple #[.complex .f64 a b, .int .i64 0]
    | none => .tuple #[.complex .f64 0 0, .int .i64 1] := by
  unfold rpt
  rw [ppS_form h]
theorem ptOf_pnum {X Y : List UInt8} (hX : decB X = true) (hY : decB Y = true) : ptOf X Y = if (pnum X).2 = 0 ∧ (pnum Y).2 = 0 ∧ inP (pnum X).1 ∧ inP (pnum Y).1 then some (Fl (pnum X).1, Fl (pnum Y).1) else none := by
  unfold ptOf
  by_cases hx : ∃ v, parseIntB 64 X = .ok v
  · obtain ⟨a, hx⟩ := hx
    rw [hx, pnum_ok hX hx]
    by_cases hy : ∃ v, parseIntB 64 Y = .ok v
    · obtain ⟨b, hy⟩ := hy
      rw [hy, pnum_ok hY hy]
      simp
    · have hy' : ∀ v, parseIntB 64 Y ≠ .ok v := fun v h => hy ⟨v, h⟩
      rw [pnum_err hY hy']
      rcases hq : parseIntB 64 Y with v | _ | _
      · exact absurd hq (hy' v)
      · simp
      · simp
  · have hx' : ∀ v, parseIntB 64 X ≠ .ok v := fun v h => hx ⟨v, h⟩
    rw [pnum_err hX hx']
    rcases hq : parseIntB 64 X with v | _ | _
    · exact absurd hq (hx' v)
    · simp
    · simp
end Go.Proofs.YtlgabpcjhhihdaaDoor
end

section
namespace Go.Proofs.YtlgabpcjhhihdaaDoor
open Go.RowKit Go.NW
set_option maxRecDepth 100000
theorem hv_form : ∀ n, n < 256 → hv (UInt8.ofNat n) = if 48 ≤ n ∧ n ≤ 57 then (n : Int) - 48 else if 97 ≤ n ∧ n ≤ 102 then (n : Int) - 87 else -1 := by decide +kernel
theorem hv_of (c : UInt8) : hv c = if 48 ≤ c.toNat ∧ c.toNat ≤ 57 then (c.toNat : Int) - 48 else if 97 ≤ c.toNat ∧ c.toNat ≤ 102 then (c.toNat : Int) - 87 else -1 := by
  have h := hv_form c.toNat c.toNat_lt
  rw [UInt8.ofNat_toNat] at h
  exact h
theorem Tryd.rhex (c : UInt8) (w : World) : Calls Tryd.prog 23 #[.int .u8 (c.toNat : Int)] w fun e w' => e = .returned (.int .i64 (hv c)) ∧ w = w' := by
  have hh := hv_of c
  have hlt := c.toNat_lt
  generalize hv c = R at hh ⊢
  generalize c.toNat = n at hh hlt ⊢
  by_cases h1 : 48 ≤ n
  · have u1 : decide ((n : Int) ≥ 48) = true := decide_eq_true (by omega)
    have v1 : decide (48 ≤ n) = true := decide_eq_true (by omega)
    by_cases h2 : n ≤ 57
    · have u2 : decide ((n : Int) ≤ 57) = true := decide_eq_true (by omega)
      have v2 : decide (n ≤ 57) = true := decide_eq_true (by omega)
      rw [if_pos ⟨h1, h2⟩] at hh
      have w1 : IntKind.u8.wrap ((n : Int) - 48) = R := by rw [hh]; simp only [IntKind.wrap, IntKind.signed, IntKind.bits]; simp; omega
      have w2 : IntKind.i64.wrap R = R := by rw [hh]; simp only [IntKind.wrap, IntKind.signed, IntKind.bits]; simp; omega
      clear h1 h2 hh hlt
      go_enter Tryd.func23, Tryd.ntmps23
      go_wp2_with fail
      go_ret
      exact ⟨rfl, rfl⟩
    · have u2 : decide ((n : Int) ≤ 57) = false := decide_eq_false (by omega)
      have v2 : decide (n ≤ 57) = false := decide_eq_false (by omega)
      rw [if_neg (fun h => h2 h.2)] at hh
      by_cases h3 : 97 ≤ n
      · have u3 : decide ((n : Int) ≥ 97) = true := decide_eq_true (by omega)
        have v3 : decide (97 ≤ n) = true := decide_eq_true (by omega)
        by_cases h4 : n ≤ 102
        · have u4 : decide ((n : Int) ≤ 102) = true := decide_eq_true (by omega)
          have v4 : decide (n ≤ 102) = true := decide_eq_true (by omega)
          rw [if_pos ⟨h3, h4⟩] at hh
          obtain ⟨q, hq⟩ : ∃ q : Int, q = (n : Int) - 97 := ⟨_, rfl⟩
          have w1 : IntKind.u8.wrap ((n : Int) - 97) = q := by rw [hq]; simp only [IntKind.wrap, IntKind.signed, IntKind.bits]; simp; omega
          have w2 : IntKind.i64.wrap q = q := by rw [hq]; simp only [IntKind.wrap, IntKind.signed, IntKind.bits]; simp; omega
          have w3 : IntKind.i64.wrap (q + 10) = R := by rw [hq, hh]; simp only [IntKind.wrap, IntKind.signed, IntKind.bits]; simp; omega
          clear h1 h2 hh hlt h3 h4 hq
          go_enter Tryd.func23, Tryd.ntmps23
          go_wp2_with fail
          go_ret
          exact ⟨rfl, rfl⟩
        · have u4 : decide ((n : Int) ≤ 102) = false := decide_eq_false (by omega)
          have v4 : decide (n ≤ 102) = false := decide_eq_false (by omega)
          rw [if_neg (fun h => h4 h.2)] at hh
          subst hh
          clear h1 h2 hlt h3 h4
          go_enter Tryd.func23, Tryd.ntmps23
          go_wp2_with fail
          go_ret
          exact ⟨rfl, rfl⟩
      · have u3 : decide ((n : Int) ≥ 97) = false := decide_eq_false (by omega)
        have v3 : decide (97 ≤ n) = false := decide_eq_false (by omega)
        rw [if_neg (fun h => h3 h.1)] at hh
        subst hh
        clear h1 h2 hlt h3
        go_enter Tryd.func23, Tryd.ntmps23
        go_wp2_with fail
        go_ret
        exact ⟨rfl, rfl⟩
  · have u1 : decide ((n : Int) ≥ 48) = false := decide_eq_false (by omega)
    have v1 : decide (48 ≤ n) = false := decide_eq_false (by omega)
    have u3 : decide ((n : Int) ≥ 97) = false := decide_eq_false (by omega)
    have v3 : decide (97 ≤ n) = false := decide_eq_false (by omega)
    rw [if_neg (fun h => h1 h.1), if_neg (by omega)] at hh
    subst hh
    clear h1 hlt
    go_enter Tryd.func23, Tryd.ntmps23
    go_wp2_with fail
    go_ret
    exact ⟨rfl, rfl⟩
set_option maxHeartbeats 4000000 in
theorem Tryd.rnum (l : List UInt8) (hl : l.length < 2 ^ 40) (w : World) : Calls Tryd.prog 25 #[.string (bs l)] w fun e w' => e = .returned (.tuple #[.int .i64 (pnum l).1, .int .i64 (pnum l).2]) ∧ w = w' := by
  have hB := bs_list
  have hG := bs_get
  have HPnum : Hid (∀ x y, pnum l = (x, y) → (Value.tuple #[.int .i64 (pnum l).1, .int .i64 (pnum l).2] = .tuple #[.int .i64 x, .int .i64 y])) := Lib.hid (fun x y h => by rw [h])
  obtain ⟨R, hR⟩ : ∃ R, R = Value.tuple #[.int .i64 (pnum l).1, .int .i64 (pnum l).2] := ⟨_, rfl⟩
  rw [← hR] at HPnum ⊢
  clear hR
  by_cases h45 : l.head? = some 45
  · obtain ⟨b, rfl⟩ : ∃ b, l = 45 :: b := by
      match l, h45 with
      | x :: t, h45 => exact ⟨t, by simpa using h45⟩
    have hbare : bare (45 :: b) = b := by unfold bare; simp
    have hD : ∀ c r, b = c :: r → decB (45 :: b) = (!(c == 48 && !(45 :: b == [48])) && (c :: r).all dig) := fun c r h => by
      conv => lhs; unfold decB
      rw [hbare, h]
    have hL0 : ∀ h, (45 :: b)[0]'h = 45 := fun h => rfl
    obtain ⟨m, hm⟩ : ∃ m, m = b.length := ⟨_, rfl⟩
    have hml : m < 2 ^ 40 := by rw [List.length_cons] at hl; omega
    have HM := Lib.hid hm
    have hS1 : (bs b).size = m := by rw [bs_size, hm]
    have hS2 : (bs (45 :: b)).size = m + 1 := by rw [bs_size, hm]; rfl
    have h4 : (bs (45 :: b)).extract 1 (m + 1) = bs b := by rw [bs_ext, hm]; simp
    have g0 : decide (((m + 1 : Nat) : Int) > 0) = true := decide_eq_true (by omega)
    have g00 : decide ((m : Int) + 1 > 0) = true := decide_eq_true (by omega)
    have g01 : decide (0 < m + 1) = true := decide_eq_true (by omega)
    rcases b with _ | ⟨c, r⟩
    · have HQ : Hid (R = .tuple #[.int .i64 0, .int .i64 2]) := Lib.hid (HPnum.out _ _ (pnum_no rfl))
      clear hbare h45 hD hm
      go_enter Tryd.func25, Tryd.ntmps25
      go_wp2_with fail
      rw [HQ.out]
      refine bodyPost_ret (v := .tuple #[.int .i64 0, .int .i64 2]) (by simp [results, Tryd.results25, go_sem]) rfl ⟨rfl, rfl⟩
    · obtain ⟨b, hb⟩ : ∃ b, b = c :: r := ⟨_, rfl⟩
      have hb0 : ∀ h, b[0]'h = c := by subst hb; intro h; rfl
      have hb1 : 0 < m := by rw [hm]; simp
      have hbe : b.isEmpty = false := by rw [hb]; rfl
      have hbe2 : (b == []) = false := by rw [hb]; rfl
      rw [← hb] at HM hS1 hS2 h4 hL0
      have hD := hD c r rfl
      by_cases hz : c = 48
      · have HQ : Hid (R = .tuple #[.int .i64 0, .int .i64 2]) := Lib.hid (HPnum.out _ _ (pnum_no (by
          rw [hD, show (c == 48) = true from by simp [hz]]; rfl)))
        have z1 : ((c.toNat : Int) == 48) = true := by rw [hz]; rfl
        have z2 : decide ((c.toNat : Int) = 48) = true := by rw [hz]; rfl
        rw [← hb]
        clear hbare h45 hD hb hm hz
        by_cases hm2 : 1 < m
        · have g3 : decide ((m : Int) > 1) = true := decide_eq_true (by omega)
          have g4 : decide (1 < m) = true := decide_eq_true (by omega)
          go_enter Tryd.func25, Tryd.ntmps25
          go_wp2_with fail
          rw [HQ.out]
          refine bodyPost_ret (v := .tuple #[.int .i64 0, .int .i64 2]) (by simp [results, Tryd.results25, go_sem]) rfl ⟨rfl, rfl⟩
        · have g3 : decide ((m : Int) > 1) = false := decide_eq_false (by omega)
          have g4 : decide (1 < m) = false := decide_eq_false (by omega)
          go_enter Tryd.func25, Tryd.ntmps25
          go_wp2_with fail
          rw [HQ.out]
          refine bodyPost_ret (v := .tuple #[.int .i64 0, .int .i64 2]) (by simp [results, Tryd.results25, go_sem]) rfl ⟨rfl, rfl⟩
      · have hD2 : decB (45 :: c :: r) = (c :: r).all dig := by
          rw [hD, show (c == 48) = false from by simp [hz]]
          simp
        have HPN : Hid (b.all dig = false → R = .tuple #[.int .i64 0, .int .i64 2]) := Lib.hid (fun h => HPnum.out _ _ (pnum_no (by rw [hD2, ← hb]; exact h)))
        have HPR : Hid (b.all dig = true → 9223372036854775808 < dvF 0 b → R = .tuple #[.int .i64 0, .int .i64 1]) := Lib.hid (fun h hv => HPnum.out _ _ (by
          unfold pnum; rw [hbare, if_pos (by rw [hD2, ← hb]; exact h), if_pos h45, ← hb, if_neg (by omega)]))
        have HPO : Hid (b.all dig = true → dvF 0 b ≤ 9223372036854775808 → R = .tuple #[.int .i64 (-(dvF 0 b : Int)), .int .i64 0]) := Lib.hid (fun h hv => HPnum.out _ _ (by
          unfold pnum; rw [hbare, if_pos (by rw [hD2, ← hb]; exact h), if_pos h45, ← hb, if_pos hv]))
        have hcn48 : c.toNat ≠ 48 := fun h => hz (UInt8.toNat_inj.1 h)
        have z1 : ((c.toNat : Int) == 48) = false := by simp; omega
        have z2 : decide ((c.toNat : Int) = 48) = false := decide_eq_false (by omega)
        rw [← hb]
        clear hbare h45 hD hb hm hz hD2 hcn48
        go_enter Tryd.func25, Tryd.ntmps25
        go_wp2_with fail
        go_loopw [6] (fun t6 W => ∃ i : Nat, W = w ∧ i ≤ m ∧ t6 = .int .i64 i ∧ Hid ((b.take i).all dig = true)) (fun t6 _ => m - (intO t6).toNat)
        case atStart => exact ⟨0, rfl, Nat.zero_le _, rfl, Lib.hid (by simp)⟩
        case round =>
          obtain ⟨i, rfl, him, rfl, HA⟩ := hrel
          by_cases hlt : i < m
          · have t1 : decide ((i : Int) < m) = true := decide_eq_true (by omega)
            have t2 : decide (i < m) = true := decide_eq_true hlt
            obtain ⟨y, hy⟩ : ∃ y, b[i]'(by rw [← HM.out]; exact hlt) = y := ⟨_, rfl⟩
            have hnext : (b.take (i + 1)).all dig = ((b.take i).all dig && dig y) := by
              rw [List.take_add_one, List.getElem?_eq_getElem (by rw [← HM.out]; exact hlt), hy, List.all_append]
              simp
            have hgo : ∀ k, (b.take k).all dig = false → b.all dig = false := fun k h => by
              rw [← List.take_append_drop k b, List.all_append, h, Bool.false_and]
            rw [HA.out, Bool.true_and] at hnext
            have HN := Lib.hid hnext
            have HG := Lib.hid (hgo (i + 1))
            have hdy : dig y = (decide (48 ≤ y.toNat) && decide (y.toNat ≤ 57)) := rfl
            by_cases h1 : y.toNat < 48
            · have u1 : decide ((y.toNat : Int) < 48) = true := decide_eq_true (by omega)
              have hall : b.all dig = false := HG.out (by rw [HN.out, hdy, decide_eq_false (by omega)]; rfl)
              have HQ := Lib.hid (HPN.out hall)
              clear hnext hgo hdy hall
              go_wp2_with fail
              rw [HQ.out]
              refine bodyPost_ret (v := .tuple #[.int .i64 0, .int .i64 2]) (by simp [results, Tryd.results25, go_sem]) rfl ⟨rfl, rfl⟩
            · have u1 : decide ((y.toNat : Int) < 48) = false := decide_eq_false (by omega)
              by_cases h2 : 57 < y.toNat
              · have u2 : decide ((y.toNat : Int) > 57) = true := decide_eq_true (by omega)
                have hall : b.all dig = false := HG.out (by rw [HN.out, hdy, decide_eq_false (p := y.toNat ≤ 57) (by omega), Bool.and_false])
                have HQ := Lib.hid (HPN.out hall)
                clear hnext hgo hdy hall
                go_wp2_with fail
                rw [HQ.out]
                refine bodyPost_ret (v := .tuple #[.int .i64 0, .int .i64 2]) (by simp [results, Tryd.results25, go_sem]) rfl ⟨rfl, rfl⟩
              · have u2 : decide ((y.toNat : Int) > 57) = false := decide_eq_false (by omega)
                have hn : (b.take (i + 1)).all dig = true := by rw [HN.out, hdy, decide_eq_true (by omega), decide_eq_true (by omega)]; rfl
                have HA2 := Lib.hid hn
                clear hnext hgo hdy hn
                go_wp2_with fail
                exact ⟨⟨i + 1, by first | rfl | trivial, by omega, rfl, HA2⟩, by simp [intO]; omega⟩
          · obtain rfl : m = i := by omega
            have t1 : decide ((m : Int) < m) = false := decide_eq_false (by omega)
            have t2 : decide (m < m) = false := decide_eq_false (by omega)
            have hall : b.all dig = true := by
              have := HA.out
              rw [HM.out, List.take_length] at this
              exact this
            have HALL := Lib.hid hall
            clear hall
            clear HA him hlt
            clear t1 t2
            go_wp2_with fail
            go_loopw [7, 8] (fun t7 t8 W => ∃ i v : Nat, W = wr ∧ i ≤ m ∧ t8 = .int .i64 i ∧ t7 = .int .i64 (-(v : Int)) ∧ v ≤ 9223372036854775808 ∧ Hid (v = dvF 0 (b.take i))) (fun _ t8 _ => m - (intO t8).toNat)
            case atStart => exact ⟨0, 0, rfl, Nat.zero_le _, rfl, rfl, by omega, Lib.hid rfl⟩
            case round =>
              obtain ⟨i, v, rfl, him, rfl, rfl, hv, HV⟩ := hrel
              by_cases hlt : i < m
              · have t1 : decide ((i : Int) < m) = true := decide_eq_true (by omega)
                have t2 : decide (i < m) = true := decide_eq_true hlt
                obtain ⟨y, hy⟩ : ∃ y, b[i]'(by rw [← HM.out]; exact hlt) = y := ⟨_, rfl⟩
                have hdy : dig y = true := by
                  have := HALL.out
                  rw [List.all_eq_true] at this
                  rw [← hy]
                  exact this _ (List.getElem_mem _)
                have hdy2 := dig_iff.1 hdy
                obtain ⟨d, hd⟩ : ∃ d : Nat, d = y.toNat - 48 := ⟨_, rfl⟩
                have hd9 : d ≤ 9 := by omega
                have hnext : dvF 0 (b.take (i + 1)) = v * 10 + d := by
                  rw [List.take_add_one, List.getElem?_eq_getElem (by rw [← HM.out]; exact hlt), hy]
                  show dvF 0 (b.take i ++ [y]) = _
                  rw [dvF_snoc, ← HV.out, hd]
                have hge : v * 10 + d ≤ dvF 0 b := by
                  conv => rhs; rw [← List.take_append_drop (i + 1) b, dvF_app, hnext]
                  exact dvF_ge _ _
                have HN := Lib.hid hnext
                have HGE := Lib.hid hge
                have w1 : IntKind.u8.wrap ((y.toNat : Int) - 48) = d := by simp only [IntKind.wrap, IntKind.signed, IntKind.bits]; simp; omega
                have w2 : IntKind.i64.wrap (d : Int) = d := by simp only [IntKind.wrap, IntKind.signed, IntKind.bits]; simp; omega
                have w3 : IntKind.i64.wrap (-9223372036854775808 + (d : Int)) = -9223372036854775808 + (d : Int) := by simp only [IntKind.wrap, IntKind.signed, IntKind.bits]; simp; omega
                obtain ⟨q, hq⟩ : ∃ q : Nat, q = (9223372036854775808 - d) / 10 := ⟨_, rfl⟩
                have q1 : (-9223372036854775808 + (d : Int)).tdiv 10 = -(q : Int) := by
                  rw [show (-9223372036854775808 + (d : Int)) = -((9223372036854775808 - d : Nat) : Int) from by omega, Int.neg_tdiv, hq]
                  rw [show ((10 : Int)) = ((10 : Nat) : Int) from rfl, ← Int.ofNat_tdiv]
                have w4 : IntKind.i64.wrap (-(q : Int)) = -(q : Int) := by simp only [IntKind.wrap, IntKind.signed, IntKind.bits]; simp; omega
                by_cases hov : 9223372036854775808 < v * 10 + d
                · have u1 : decide (-(v : Int) < -(q : Int)) = true := decide_eq_true (by omega)
                  have u2 : decide (q < v) = true := decide_eq_true (by omega)
                  have HQ := Lib.hid (HPR.out HALL.out (by have := HGE.out; omega))
                  clear hnext hge hq hov hdy hdy2 hd
                  go_wp2_with fail
                  rw [HQ.out]
                  refine bodyPost_ret (v := .tuple #[.int .i64 0, .int .i64 1]) (by simp [results, Tryd.results25, go_sem]) rfl ⟨rfl, rfl⟩
                · have u1 : decide (-(v : Int) < -(q : Int)) = false := decide_eq_false (by omega)
                  have u2 : decide (q < v) = false := decide_eq_false (by omega)
                  have w5 : IntKind.i64.wrap (10 * -(v : Int)) = 10 * -(v : Int) := by simp only [IntKind.wrap, IntKind.signed, IntKind.bits]; simp; omega
                  have w6 : IntKind.i64.wrap (10 * -(v : Int) - (d : Int)) = -((v * 10 + d : Nat) : Int) := by simp only [IntKind.wrap, IntKind.signed, IntKind.bits]; simp; omega
                  have hv2 : v * 10 + d ≤ 9223372036854775808 := by omega
                  clear hnext hge hq hov hdy hdy2 hd
                  go_wp2_with fail
                  exact ⟨⟨i + 1, v * 10 + d, by first | rfl | trivial, by omega, rfl, rfl, hv2, Lib.hid HN.out.symm⟩, by simp [intO]; omega⟩
              · obtain rfl : m = i := by omega
                have t1 : decide ((m : Int) < m) = false := decide_eq_false (by omega)
                have t2 : decide (m < m) = false := decide_eq_false (by omega)
                have hvb : v = dvF 0 b := by
                  have := HV.out
                  rw [HM.out, List.take_length] at this
                  exact this
                clear hlt him
                have HQ := Lib.hid (HPO.out HALL.out (by omega))
                rw [← hvb] at HQ
                clear hvb HV
                go_wp2_with fail
                rw [HQ.out]
                refine bodyPost_ret (v := .tuple #[.int .i64 (-(v : Int)), .int .i64 0]) (by simp [results, Tryd.results25, go_sem]) rfl ⟨rfl, rfl⟩
  · have hbare : bare l = l := by unfold bare; rw [if_neg h45]
    rcases l with _ | ⟨c, r⟩
    · have HQ : Hid (R = .tuple #[.int .i64 0, .int .i64 2]) := Lib.hid (HPnum.out _ _ (pnum_no rfl))
      clear hbare h45
      have hS1 : (bs []).size = 0 := by rw [bs_size]; rfl
      go_enter Tryd.func25, Tryd.ntmps25
      go_wp2_with fail
      rw [HQ.out]
      refine bodyPost_ret (v := .tuple #[.int .i64 0, .int .i64 2]) (by simp [results, Tryd.results25, go_sem]) rfl ⟨rfl, rfl⟩
    · have hc45 : c ≠ 45 := by simpa using h45
      have hD : decB (c :: r) = (!(c == 48 && !(c :: r == [48])) && (c :: r).all dig) := by
        conv => lhs; unfold decB
        rw [hbare]
      have hcn : c.toNat ≠ 45 := fun h => hc45 (UInt8.toNat_inj.1 h)
      have e1 : ((c.toNat : Int) == 45) = false := by simp; omega
      have e2 : decide ((c.toNat : Int) = 45) = false := decide_eq_false (by omega)
      obtain ⟨b, hb⟩ : ∃ b, b = c :: r := ⟨_, rfl⟩
      have hb0 : ∀ h, b[0]'h = c := by subst hb; intro h; rfl
      obtain ⟨m, hm⟩ : ∃ m, m = b.length := ⟨_, rfl⟩
      have hb1 : 0 < m := by rw [hm, hb]; simp
      have hml : m < 2 ^ 40 := by rw [hm, hb]; exact hl
      have HM := Lib.hid hm
      have hS1 : (bs b).size = m := by rw [bs_size, hm]
      have hbe : b.isEmpty = false := by rw [hb]; rfl
      have hbe2 : (b == []) = false := by rw [hb]; rfl
      have g1 : decide ((m : Int) > 0) = true := decide_eq_true (by omega)
      have g2 : decide (0 < m) = true := decide_eq_true (by omega)
      by_cases hz : c = 48 ∧ ¬ c :: r = [48]
      · have HQ : Hid (R = .tuple #[.int .i64 0, .int .i64 2]) := Lib.hid (HPnum.out _ _ (pnum_no (by
          rw [hD, show (c == 48) = true from by simp [hz.1], show (c :: r == [48]) = false from by simpa using hz.2]; rfl)))
        have z1 : ((c.toNat : Int) == 48) = true := by rw [hz.1]; rfl
        have z2 : decide ((c.toNat : Int) = 48) = true := by rw [hz.1]; rfl
        have hm2 : 1 < m := by
          rcases r with _ | ⟨d, r⟩
          · exact absurd (by rw [hz.1]) hz.2
          · rw [hm, hb]; simp
        have g3 : decide ((m : Int) > 1) = true := decide_eq_true (by omega)
        have g4 : decide (1 < m) = true := decide_eq_true (by omega)
        rw [← hb]
        clear hbare h45 hc45 hD hcn hb hm hz
        go_enter Tryd.func25, Tryd.ntmps25
        go_wp2_with fail
        rw [HQ.out]
        refine bodyPost_ret (v := .tuple #[.int .i64 0, .int .i64 2]) (by simp [results, Tryd.results25, go_sem]) rfl ⟨rfl, rfl⟩
      · have hD2 : decB (c :: r) = (c :: r).all dig := by
          rw [hD]
          have : (c == 48 && !(c :: r == [48])) = false := by
            by_cases h1 : c = 48
            · have h2 : c :: r = [48] := Classical.byContradiction fun h => hz ⟨h1, h⟩
              rw [h2, h1]; rfl
            · simp [h1]
          rw [this]
          simp
        have HPN : Hid (b.all dig = false → R = .tuple #[.int .i64 0, .int .i64 2]) := Lib.hid (fun h => HPnum.out _ _ (pnum_no (by rw [hD2, ← hb]; exact h)))
        have HPR : Hid (b.all dig = true → 9223372036854775808 ≤ dvF 0 b → R = .tuple #[.int .i64 0, .int .i64 1]) := Lib.hid (fun h hv => HPnum.out _ _ (by
          unfold pnum; rw [hbare, if_pos (by rw [hD2, ← hb]; exact h), if_neg h45, ← hb, if_neg (by omega)]))
        have HPO : Hid (b.all dig = true → dvF 0 b < 9223372036854775808 → R = .tuple #[.int .i64 (dvF 0 b), .int .i64 0]) := Lib.hid (fun h hv => HPnum.out _ _ (by
          unfold pnum; rw [hbare, if_pos (by rw [hD2, ← hb]; exact h), if_neg h45, ← hb, if_pos hv]))
        rcases hc48 : decide (c = 48) with _ | _
        · have hcn48 : c.toNat ≠ 48 := fun h => (of_decide_eq_false hc48) (UInt8.toNat_inj.1 h)
          have z1 : ((c.toNat : Int) == 48) = false := by simp; omega
          have z2 : decide ((c.toNat : Int) = 48) = false := decide_eq_false (by omega)
          rw [← hb]
          clear hbare h45 hc45 hD hcn hb hm hz hD2 hc48 hcn48
          go_enter Tryd.func25, Tryd.ntmps25
          go_wp2_with fail
          go_loopw [6] (fun t6 W => ∃ i : Nat, W = w ∧ i ≤ m ∧ t6 = .int .i64 i ∧ Hid ((b.take i).all dig = true)) (fun t6 _ => m - (intO t6).toNat)
          case atStart => exact ⟨0, rfl, Nat.zero_le _, rfl, Lib.hid (by simp)⟩
          case round =>
            obtain ⟨i, rfl, him, rfl, HA⟩ := hrel
            by_cases hlt : i < m
            · have t1 : decide ((i : Int) < m) = true := decide_eq_true (by omega)
              have t2 : decide (i < m) = true := decide_eq_true hlt
              obtain ⟨y, hy⟩ : ∃ y, b[i]'(by rw [← HM.out]; exact hlt) = y := ⟨_, rfl⟩
              have hnext : (b.take (i + 1)).all dig = ((b.take i).all dig && dig y) := by
                rw [List.take_add_one, List.getElem?_eq_getElem (by rw [← HM.out]; exact hlt), hy, List.all_append]
                simp
              have hgo : ∀ k, (b.take k).all dig = false → b.all dig = false := fun k h => by
                rw [← List.take_append_drop k b, List.all_append, h, Bool.false_and]
              rw [HA.out, Bool.true_and] at hnext
              have HN := Lib.hid hnext
              have HG := Lib.hid (hgo (i + 1))
              have hdy : dig y = (decide (48 ≤ y.toNat) && decide (y.toNat ≤ 57)) := rfl
              by_cases h1 : y.toNat < 48
              · have u1 : decide ((y.toNat : Int) < 48) = true := decide_eq_true (by omega)
                have hall : b.all dig = false := HG.out (by rw [HN.out, hdy, decide_eq_false (by omega)]; rfl)
                have HQ := Lib.hid (HPN.out hall)
                clear hnext hgo hdy hall
                go_wp2_with fail
                rw [HQ.out]
                refine bodyPost_ret (v := .tuple #[.int .i64 0, .int .i64 2]) (by simp [results, Tryd.results25, go_sem]) rfl ⟨rfl, rfl⟩
              · have u1 : decide ((y.toNat : Int) < 48) = false := decide_eq_false (by omega)
                by_cases h2 : 57 < y.toNat
                · have u2 : decide ((y.toNat : Int) > 57) = true := decide_eq_true (by omega)
                  have hall : b.all dig = false := HG.out (by rw [HN.out, hdy, decide_eq_false (p := y.toNat ≤ 57) (by omega), Bool.and_false])
                  have HQ := Lib.hid (HPN.out hall)
                  clear hnext hgo hdy hall
                  go_wp2_with fail
                  rw [HQ.out]
                  refine bodyPost_ret (v := .tuple #[.int .i64 0, .int .i64 2]) (by simp [results, Tryd.results25, go_sem]) rfl ⟨rfl, rfl⟩
                · have u2 : decide ((y.toNat : Int) > 57) = false := decide_eq_false (by omega)
                  have hn : (b.take (i + 1)).all dig = true := by rw [HN.out, hdy, decide_eq_true (by omega), decide_eq_true (by omega)]; rfl
                  have HA2 := Lib.hid hn
                  clear hnext hgo hdy hn
                  go_wp2_with fail
                  exact ⟨⟨i + 1, by first | rfl | trivial, by omega, rfl, HA2⟩, by simp [intO]; omega⟩
            · obtain rfl : m = i := by omega
              have t1 : decide ((m : Int) < m) = false := decide_eq_false (by omega)
              have t2 : decide (m < m) = false := decide_eq_false (by omega)
              have hall : b.all dig = true := by
                have := HA.out
                rw [HM.out, List.take_length] at this
                exact this
              have HALL := Lib.hid hall
              clear hall
              clear HA him hlt
              clear t1 t2
              go_wp2_with fail
              go_loopw [7, 8] (fun t7 t8 W => ∃ i v : Nat, W = wr ∧ i ≤ m ∧ t8 = .int .i64 i ∧ t7 = .int .i64 (-(v : Int)) ∧ v ≤ 9223372036854775808 ∧ Hid (v = dvF 0 (b.take i))) (fun _ t8 _ => m - (intO t8).toNat)
              case atStart => exact ⟨0, 0, rfl, Nat.zero_le _, rfl, rfl, by omega, Lib.hid rfl⟩
              case round =>
                obtain ⟨i, v, rfl, him, rfl, rfl, hv, HV⟩ := hrel
                by_cases hlt : i < m
                · have t1 : decide ((i : Int) < m) = true := decide_eq_true (by omega)
                  have t2 : decide (i < m) = true := decide_eq_true hlt
                  obtain ⟨y, hy⟩ : ∃ y, b[i]'(by rw [← HM.out]; exact hlt) = y := ⟨_, rfl⟩
                  have hdy : dig y = true := by
                    have := HALL.out
                    rw [List.all_eq_true] at this
                    rw [← hy]
                    exact this _ (List.getElem_mem _)
                  have hdy2 := dig_iff.1 hdy
                  obtain ⟨d, hd⟩ : ∃ d : Nat, d = y.toNat - 48 := ⟨_, rfl⟩
                  have hd9 : d ≤ 9 := by omega
                  have hnext : dvF 0 (b.take (i + 1)) = v * 10 + d := by
                    rw [List.take_add_one, List.getElem?_eq_getElem (by rw [← HM.out]; exact hlt), hy]
                    show dvF 0 (b.take i ++ [y]) = _
                    rw [dvF_snoc, ← HV.out, hd]
                  have hge : v * 10 + d ≤ dvF 0 b := by
                    conv => rhs; rw [← List.take_append_drop (i + 1) b, dvF_app, hnext]
                    exact dvF_ge _ _
                  have HN := Lib.hid hnext
                  have HGE := Lib.hid hge
                  have w1 : IntKind.u8.wrap ((y.toNat : Int) - 48) = d := by simp only [IntKind.wrap, IntKind.signed, IntKind.bits]; simp; omega
                  have w2 : IntKind.i64.wrap (d : Int) = d := by simp only [IntKind.wrap, IntKind.signed, IntKind.bits]; simp; omega
                  have w3 : IntKind.i64.wrap (-9223372036854775808 + (d : Int)) = -9223372036854775808 + (d : Int) := by simp only [IntKind.wrap, IntKind.signed, IntKind.bits]; simp; omega
                  obtain ⟨q, hq⟩ : ∃ q : Nat, q = (9223372036854775808 - d) / 10 := ⟨_, rfl⟩
                  have q1 : (-9223372036854775808 + (d : Int)).tdiv 10 = -(q : Int) := by
                    rw [show (-9223372036854775808 + (d : Int)) = -((9223372036854775808 - d : Nat) : Int) from by omega, Int.neg_tdiv, hq]
                    rw [show ((10 : Int)) = ((10 : Nat) : Int) from rfl, ← Int.ofNat_tdiv]
                  have w4 : IntKind.i64.wrap (-(q : Int)) = -(q : Int) := by simp only [IntKind.wrap, IntKind.signed, IntKind.bits]; simp; omega
                  by_cases hov : 9223372036854775808 < v * 10 + d
                  · have u1 : decide (-(v : Int) < -(q : Int)) = true := decide_eq_true (by omega)
                    have u2 : decide (q < v) = true := decide_eq_true (by omega)
                    have HQ := Lib.hid (HPR.out HALL.out (by have := HGE.out; omega))
                    clear hnext hge hq hov hdy hdy2 hd
                    go_wp2_with fail
                    rw [HQ.out]
                    refine bodyPost_ret (v := .tuple #[.int .i64 0, .int .i64 1]) (by simp [results, Tryd.results25, go_sem]) rfl ⟨rfl, rfl⟩
                  · have u1 : decide (-(v : Int) < -(q : Int)) = false := decide_eq_false (by omega)
                    have u2 : decide (q < v) = false := decide_eq_false (by omega)
                    have w5 : IntKind.i64.wrap (10 * -(v : Int)) = 10 * -(v : Int) := by simp only [IntKind.wrap, IntKind.signed, IntKind.bits]; simp; omega
                    have w6 : IntKind.i64.wrap (10 * -(v : Int) - (d : Int)) = -((v * 10 + d : Nat) : Int) := by simp only [IntKind.wrap, IntKind.signed, IntKind.bits]; simp; omega
                    have hv2 : v * 10 + d ≤ 9223372036854775808 := by omega
                    clear hnext hge hq hov hdy hdy2 hd
                    go_wp2_with fail
                    exact ⟨⟨i + 1, v * 10 + d, by first | rfl | trivial, by omega, rfl, rfl, hv2, Lib.hid HN.out.symm⟩, by simp [intO]; omega⟩
                · obtain rfl : m = i := by omega
                  have t1 : decide ((m : Int) < m) = false := decide_eq_false (by omega)
                  have t2 : decide (m < m) = false := decide_eq_false (by omega)
                  have hvb : v = dvF 0 b := by
                    have := HV.out
                    rw [HM.out, List.take_length] at this
                    exact this
                  clear hlt him
                  by_cases hz2 : v = 9223372036854775808
                  · have u1 : ((-(v : Int)) == -9223372036854775808) = true := by rw [hz2]; rfl
                    have u2 : decide ((-(v : Int)) = -9223372036854775808) = true := decide_eq_true (by omega)
                    have u3 : decide (v = 9223372036854775808) = true := decide_eq_true (by omega)
                    have HQ := Lib.hid (HPR.out HALL.out (by omega))
                    clear hz2 hvb HV
                    go_wp2_with fail
                    rw [HQ.out]
                    refine bodyPost_ret (v := .tuple #[.int .i64 0, .int .i64 1]) (by simp [results, Tryd.results25, go_sem]) rfl ⟨rfl, rfl⟩
                  · have u1 : ((-(v : Int)) == -9223372036854775808) = false := by simp; omega
                    have u2 : decide ((-(v : Int)) = -9223372036854775808) = false := decide_eq_false (by omega)
                    have u3 : decide (v = 9223372036854775808) = false := decide_eq_false (by omega)
                    have w1 : IntKind.i64.wrap (0 - -(v : Int)) = v := by simp only [IntKind.wrap, IntKind.signed, IntKind.bits]; simp; omega
                    have w2 : IntKind.i64.wrap (- -(v : Int)) = v := by simp only [IntKind.wrap, IntKind.signed, IntKind.bits]; simp; omega
                    have w3 : IntKind.i64.wrap (v : Int) = v := by simp only [IntKind.wrap, IntKind.signed, IntKind.bits]; simp; omega
                    have HQ := Lib.hid (HPO.out HALL.out (by omega))
                    rw [← hvb] at HQ
                    clear hz2 hvb HV
                    go_wp2_with fail
                    rw [HQ.out]
                    refine bodyPost_ret (v := .tuple #[.int .i64 v, .int .i64 0]) (by simp [results, Tryd.results25, go_sem]) rfl ⟨rfl, rfl⟩
        · have hc48' := of_decide_eq_true hc48
          have hm1 : m = 1 := by
            have h2 : c :: r = [48] := Classical.byContradiction fun h => hz ⟨hc48', h⟩
            rw [hm, hb, h2]; rfl
          have z1 : ((c.toNat : Int) == 48) = true := by rw [hc48']; rfl
          have z2 : decide ((c.toNat : Int) = 48) = true := by rw [hc48']; rfl
          have g3 : decide ((m : Int) > 1) = false := decide_eq_false (by omega)
          have g4 : decide (1 < m) = false := decide_eq_false (by omega)
          rw [← hb]
          clear hbare h45 hc45 hD hcn hb hm hz hD2 hc48 hc48'
          go_enter Tryd.func25, Tryd.ntmps25
          go_wp2_with fail
          go_loopw [6] (fun t6 W => ∃ i : Nat, W = w ∧ i ≤ m ∧ t6 = .int .i64 i ∧ Hid ((b.take i).all dig = true)) (fun t6 _ => m - (intO t6).toNat)
          case atStart => exact ⟨0, rfl, Nat.zero_le _, rfl, Lib.hid (by simp)⟩
          case round =>
            obtain ⟨i, rfl, him, rfl, HA⟩ := hrel
            by_cases hlt : i < m
            · have t1 : decide ((i : Int) < m) = true := decide_eq_true (by omega)
              have t2 : decide (i < m) = true := decide_eq_true hlt
              obtain ⟨y, hy⟩ : ∃ y, b[i]'(by rw [← HM.out]; exact hlt) = y := ⟨_, rfl⟩
              have hnext : (b.take (i + 1)).all dig = ((b.take i).all dig && dig y) := by
                rw [List.take_add_one, List.getElem?_eq_getElem (by rw [← HM.out]; exact hlt), hy, List.all_append]
                simp
              have hgo : ∀ k, (b.take k).all dig = false → b.all dig = false := fun k h => by
                rw [← List.take_append_drop k b, List.all_append, h, Bool.false_and]
              rw [HA.out, Bool.true_and] at hnext
              have HN := Lib.hid hnext
              have HG := Lib.hid (hgo (i + 1))
              have hdy : dig y = (decide (48 ≤ y.toNat) && decide (y.toNat ≤ 57)) := rfl
              by_cases h1 : y.toNat < 48
              · have u1 : decide ((y.toNat : Int) < 48) = true := decide_eq_true (by omega)
                have hall : b.all dig = false := HG.out (by rw [HN.out, hdy, decide_eq_false (by omega)]; rfl)
                have HQ := Lib.hid (HPN.out hall)
                clear hnext hgo hdy hall
                go_wp2_with fail
                rw [HQ.out]
                refine bodyPost_ret (v := .tuple #[.int .i64 0, .int .i64 2]) (by simp [results, Tryd.results25, go_sem]) rfl ⟨rfl, rfl⟩
              · have u1 : decide ((y.toNat : Int) < 48) = false := decide_eq_false (by omega)
                by_cases h2 : 57 < y.toNat
                · have u2 : decide ((y.toNat : Int) > 57) = true := decide_eq_true (by omega)
                  have hall : b.all dig = false := HG.out (by rw [HN.out, hdy, decide_eq_false (p := y.toNat ≤ 57) (by omega), Bool.and_false])
                  have HQ := Lib.hid (HPN.out hall)
                  clear hnext hgo hdy hall
                  go_wp2_with fail
                  rw [HQ.out]
                  refine bodyPost_ret (v := .tuple #[.int .i64 0, .int .i64 2]) (by simp [results, Tryd.results25, go_sem]) rfl ⟨rfl, rfl⟩
                · have u2 : decide ((y.toNat : Int) > 57) = false := decide_eq_false (by omega)
                  have hn : (b.take (i + 1)).all dig = true := by rw [HN.out, hdy, decide_eq_true (by omega), decide_eq_true (by omega)]; rfl
                  have HA2 := Lib.hid hn
                  clear hnext hgo hdy hn
                  go_wp2_with fail
                  exact ⟨⟨i + 1, by first | rfl | trivial, by omega, rfl, HA2⟩, by simp [intO]; omega⟩
            · obtain rfl : m = i := by omega
              have t1 : decide ((m : Int) < m) = false := decide_eq_false (by omega)
              have t2 : decide (m < m) = false := decide_eq_false (by omega)
              have hall : b.all dig = true := by
                have := HA.out
                rw [HM.out, List.take_length] at this
                exact this
              have HALL := Lib.hid hall
              clear hall
              clear HA him hlt
              clear t1 t2
              go_wp2_with fail
              go_loopw [7, 8] (fun t7 t8 W => ∃ i v : Nat, W = wr ∧ i ≤ m ∧ t8 = .int .i64 i ∧ t7 = .int .i64 (-(v : Int)) ∧ v ≤ 9223372036854775808 ∧ Hid (v = dvF 0 (b.take i))) (fun _ t8 _ => m - (intO t8).toNat)
              case atStart => exact ⟨0, 0, rfl, Nat.zero_le _, rfl, rfl, by omega, Lib.hid rfl⟩
              case round =>
                obtain ⟨i, v, rfl, him, rfl, rfl, hv, HV⟩ := hrel
                by_cases hlt : i < m
                · have t1 : decide ((i : Int) < m) = true := decide_eq_true (by omega)
                  have t2 : decide (i < m) = true := decide_eq_true hlt
                  obtain ⟨y, hy⟩ : ∃ y, b[i]'(by rw [← HM.out]; exact hlt) = y := ⟨_, rfl⟩
                  have hdy : dig y = true := by
                    have := HALL.out
                    rw [List.all_eq_true] at this
                    rw [← hy]
                    exact this _ (List.getElem_mem _)
                  have hdy2 := dig_iff.1 hdy
                  obtain ⟨d, hd⟩ : ∃ d : Nat, d = y.toNat - 48 := ⟨_, rfl⟩
                  have hd9 : d ≤ 9 := by omega
                  have hnext : dvF 0 (b.take (i + 1)) = v * 10 + d := by
                    rw [List.take_add_one, List.getElem?_eq_getElem (by rw [← HM.out]; exact hlt), hy]
                    show dvF 0 (b.take i ++ [y]) = _
                    rw [dvF_snoc, ← HV.out, hd]
                  have hge : v * 10 + d ≤ dvF 0 b := by
                    conv => rhs; rw [← List.take_append_drop (i + 1) b, dvF_app, hnext]
                    exact dvF_ge _ _
                  have HN := Lib.hid hnext
                  have HGE := Lib.hid hge
                  have w1 : IntKind.u8.wrap ((y.toNat : Int) - 48) = d := by simp only [IntKind.wrap, IntKind.signed, IntKind.bits]; simp; omega
                  have w2 : IntKind.i64.wrap (d : Int) = d := by simp only [IntKind.wrap, IntKind.signed, IntKind.bits]; simp; omega
                  have w3 : IntKind.i64.wrap (-9223372036854775808 + (d : Int)) = -9223372036854775808 + (d : Int) := by simp only [IntKind.wrap, IntKind.signed, IntKind.bits]; simp; omega
                  obtain ⟨q, hq⟩ : ∃ q : Nat, q = (9223372036854775808 - d) / 10 := ⟨_, rfl⟩
                  have q1 : (-9223372036854775808 + (d : Int)).tdiv 10 = -(q : Int) := by
                    rw [show (-9223372036854775808 + (d : Int)) = -((9223372036854775808 - d : Nat) : Int) from by omega, Int.neg_tdiv, hq]
                    rw [show ((10 : Int)) = ((10 : Nat) : Int) from rfl, ← Int.ofNat_tdiv]
                  have w4 : IntKind.i64.wrap (-(q : Int)) = -(q : Int) := by simp only [IntKind.wrap, IntKind.signed, IntKind.bits]; simp; omega
                  by_cases hov : 9223372036854775808 < v * 10 + d
                  · have u1 : decide (-(v : Int) < -(q : Int)) = true := decide_eq_true (by omega)
                    have u2 : decide (q < v) = true := decide_eq_true (by omega)
                    have HQ := Lib.hid (HPR.out HALL.out (by have := HGE.out; omega))
                    clear hnext hge hq hov hdy hdy2 hd
                    go_wp2_with fail
                    rw [HQ.out]
                    refine bodyPost_ret (v := .tuple #[.int .i64 0, .int .i64 1]) (by simp [results, Tryd.results25, go_sem]) rfl ⟨rfl, rfl⟩
                  · have u1 : decide (-(v : Int) < -(q : Int)) = false := decide_eq_false (by omega)
                    have u2 : decide (q < v) = false := decide_eq_false (by omega)
                    have w5 : IntKind.i64.wrap (10 * -(v : Int)) = 10 * -(v : Int) := by simp only [IntKind.wrap, IntKind.signed, IntKind.bits]; simp; omega
                    have w6 : IntKind.i64.wrap (10 * -(v : Int) - (d : Int)) = -((v * 10 + d : Nat) : Int) := by simp only [IntKind.wrap, IntKind.signed, IntKind.bits]; simp; omega
                    have hv2 : v * 10 + d ≤ 9223372036854775808 := by omega
                    clear hnext hge hq hov hdy hdy2 hd
                    go_wp2_with fail
                    exact ⟨⟨i + 1, v * 10 + d, by first | rfl | trivial, by omega, rfl, rfl, hv2, Lib.hid HN.out.symm⟩, by simp [intO]; omega⟩
                · obtain rfl : m = i := by omega
                  have t1 : decide ((m : Int) < m) = false := decide_eq_false (by omega)
                  have t2 : decide (m < m) = false := decide_eq_false (by omega)
                  have hvb : v = dvF 0 b := by
                    have := HV.out
                    rw [HM.out, List.take_length] at this
                    exact this
                  clear hlt him
                  by_cases hz2 : v = 9223372036854775808
                  · have u1 : ((-(v : Int)) == -9223372036854775808) = true := by rw [hz2]; rfl
                    have u2 : decide ((-(v : Int)) = -9223372036854775808) = true := decide_eq_true (by omega)
                    have u3 : decide (v = 9223372036854775808) = true := decide_eq_true (by omega)
                    have HQ := Lib.hid (HPR.out HALL.out (by omega))
                    clear hz2 hvb HV
                    go_wp2_with fail
                    rw [HQ.out]
                    refine bodyPost_ret (v := .tuple #[.int .i64 0, .int .i64 1]) (by simp [results, Tryd.results25, go_sem]) rfl ⟨rfl, rfl⟩
                  · have u1 : ((-(v : Int)) == -9223372036854775808) = false := by simp; omega
                    have u2 : decide ((-(v : Int)) = -9223372036854775808) = false := decide_eq_false (by omega)
                    have u3 : decide (v = 9223372036854775808) = false := decide_eq_false (by omega)
                    have w1 : IntKind.i64.wrap (0 - -(v : Int)) = v := by simp only [IntKind.wrap, IntKind.signed, IntKind.bits]; simp; omega
                    have w2 : IntKind.i64.wrap (- -(v : Int)) = v := by simp only [IntKind.wrap, IntKind.signed, IntKind.bits]; simp; omega
                    have w3 : IntKind.i64.wrap (v : Int) = v := by simp only [IntKind.wrap, IntKind.signed, IntKind.bits]; simp; omega
                    have HQ := Lib.hid (HPO.out HALL.out (by omega))
                    rw [← hvb] at HQ
                    clear hz2 hvb HV
                    go_wp2_with fail
                    rw [HQ.out]
                    refine bodyPost_ret (v := .tuple #[.int .i64 v, .int .i64 0]) (by simp [results, Tryd.results25, go_sem]) rfl ⟨rfl, rfl⟩
end Go.Proofs.YtlgabpcjhhihdaaDoor
end

section
namespace Go.Proofs.YtlgabpcjhhihdaaDoor
open Go.RowKit Go.NW
set_option maxRecDepth 100000
theorem Tryd.rOf (a b : Int) (w : World) : Calls Tryd.prog 43 #[.int .i64 a, .int .i64 b] w fun e w' => e = .returned (.complex .f64 (Fl a) (Fl b)) ∧ w = w' := by
  have hcv := cvF2
  have hcx := cplx
  go_enter Tryd.func43, Tryd.ntmps43
  go_wp2_with fail
  go_ret
  exact ⟨rfl, rfl⟩
theorem pnum_e (l : List UInt8) : (decB l = false ∧ pnum l = (0, 2)) ∨ (decB l = true ∧ ∃ a, pnum l = (a, 0)) ∨ (decB l = true ∧ pnum l = (0, 1)) := by
  rcases hd : decB l with _ | _
  · exact .inl ⟨rfl, pnum_no hd⟩
  · by_cases hp : ∃ v, Lib.parseIntB 64 l = .ok v
    · obtain ⟨v, hp⟩ := hp
      exact .inr (.inl ⟨rfl, v, pnum_ok hd hp⟩)
    · exact .inr (.inr ⟨rfl, pnum_err hd fun v h => hp ⟨v, h⟩⟩)
set_option maxHeartbeats 8000000 in
theorem Tryd.rpoint (l : List UInt8) (hl : l.length < 2 ^ 40) (hlast : l.getLast? = some 105) (w : World) : Calls Tryd.prog 24 #[.string (bs l)] w fun e w' => e = .returned (rpt l) ∧ w = w' := by
  have hB := bs_list
  have hG := bs_get
  have HNF : Hid ((∀ X Y, ¬ Form l X Y) → rpt l = .tuple #[.complex .f64 0 0, .int .i64 2]) := Lib.hid rpt_no
  have HYF : Hid (∀ X Y, Form l X Y → rpt l = match ptOf X Y with
    | some (a, b) => .tuple #[.complex .f64 a b, .int .i64 0]
    | none => .tuple #[.complex .f64 0 0, .int .i64 1]) := Lib.hid (fun X Y => rpt_yes)
  obtain ⟨R, hR⟩ : ∃ R, R = rpt l := ⟨_, rfl⟩
  rw [← hR] at HNF HYF ⊢
  clear hR
  obtain ⟨m, hm⟩ : ∃ m, m = l.length := ⟨_, rfl⟩
  have hS1 : (bs l).size = m := by rw [bs_size, hm]
  have HM := Lib.hid hm
  by_cases h4 : m < 4
  · have HQ := Lib.hid (HNF.out fun X Y h => by have := (form_at h).1; omega)
    have g1 : decide ((m : Int) < 4) = true := decide_eq_true (by omega)
    have g2 : decide (m < 4) = true := decide_eq_true (by omega)
    clear hm h4 hlast
    go_enter Tryd.func24, Tryd.ntmps24
    go_wp2_with fail
    rw [HQ.out]
    refine bodyPost_ret (v := .tuple #[.complex .f64 0 0, .int .i64 2]) (by simp [results, Tryd.results24, go_sem]) rfl ⟨rfl, rfl⟩
  · have g1 : decide ((m : Int) < 4) = false := decide_eq_false (by omega)
    have g2 : decide (m < 4) = false := decide_eq_false (by omega)
    obtain ⟨n, hn⟩ : ∃ n, m = n + 1 := ⟨m - 1, by omega⟩
    have hn3 : 3 ≤ n := by omega
    have hn0 : (0 : Int) ≤ n := by omega
    have hnm : (n : Int) ≤ m := by omega
    have hnm' : (n : Int) < m := by omega
    have hnm2 : n ≤ m := by omega
    have hnm3 : n < m := by omega
    have hml : m < 2 ^ 40 := by omega
    have w1 : IntKind.i64.wrap ((m : Int) - 1) = n := by simp only [IntKind.wrap, IntKind.signed, IntKind.bits]; simp; omega
    have hli : ∀ h, l[n]'h = 105 := fun h => by
      rw [List.getLast?_eq_getElem?] at hlast
      rw [show l.length - 1 = n from by omega] at hlast
      exact (List.getElem?_eq_some_iff.1 hlast).2
    have HLAST := Lib.hid hlast
    have HN1 := Lib.hid hn
    clear hm h4 hlast hn
    go_enter Tryd.func24, Tryd.ntmps24
    go_wp2_with fail
    clear hli g1 g2
    go_loopw [4, 5] (fun t4 t5 W => ∃ k i : Nat, W = w ∧ t4 = .int .i64 k ∧ t5 = .int .i64 i ∧ 1 ≤ i ∧ i ≤ n ∧ Hid ((k = 0 ∧ ∀ j y, 1 ≤ j → j < i → l[j]? = some y → y ≠ 43 ∧ y ≠ 45) ∨ (1 ≤ k ∧ k < n ∧ (∃ c, l[k]? = some c ∧ (c = 43 ∨ c = 45)) ∧ ∀ j y, 1 ≤ j → j < k → l[j]? = some y → y ≠ 43 ∧ y ≠ 45))) (fun _ t5 _ => n - (intO t5).toNat)
    case atStart => exact ⟨0, 1, rfl, rfl, rfl, Nat.le_refl _, by omega, Lib.hid (.inl ⟨rfl, fun j y h1 h2 => by omega⟩)⟩
    case round =>
      obtain ⟨k, i, rfl, rfl, rfl, hi1, hin, HI⟩ := hrel
      by_cases hk0 : k = 0
      · subst hk0
        have hno : ∀ j y, 1 ≤ j → j < i → l[j]? = some y → y ≠ 43 ∧ y ≠ 45 := by
          rcases HI.out with h | h
          · exact h.2
          · exact absurd h.1 (by omega)
        have HNO := Lib.hid hno
        clear hno
        by_cases hlt : i < n
        · have t1 : decide ((i : Int) < n) = true := decide_eq_true (by omega)
          have t2 : decide (i < n) = true := decide_eq_true hlt
          have him : i < m := by omega
          have him' : (i : Int) < m := by omega
          obtain ⟨y, hy⟩ : ∃ y, l[i]'(by rw [← HM.out]; exact him) = y := ⟨_, rfl⟩
          have hyq : l[i]? = some y := by rw [List.getElem?_eq_getElem (by rw [← HM.out]; exact him), hy]
          have HY := Lib.hid hyq
          by_cases h43 : y = 43
          · have u1 : ((y.toNat : Int) == 43) = true := by rw [h43]; rfl
            have u2 : decide ((y.toNat : Int) = 43) = true := by rw [h43]; rfl
            have HNX : Hid ((1 ≤ i ∧ i < n ∧ (∃ c, l[i]? = some c ∧ (c = 43 ∨ c = 45)) ∧ ∀ j y, 1 ≤ j → j < i → l[j]? = some y → y ≠ 43 ∧ y ≠ 45)) := Lib.hid ⟨hi1, hlt, ⟨y, HY.out, .inl h43⟩, HNO.out⟩
            clear h43 hyq
            go_wp2_with fail
            exact ⟨⟨i, i + 1, by first | rfl | trivial, rfl, rfl, by omega, by omega, Lib.hid (.inr HNX.out)⟩, by simp [intO]; omega⟩
          · have hn43 : y.toNat ≠ 43 := fun h => h43 (UInt8.toNat_inj.1 h)
            have u1 : ((y.toNat : Int) == 43) = false := by simp; omega
            have u2 : decide ((y.toNat : Int) = 43) = false := decide_eq_false (by omega)
            by_cases h45 : y = 45
            · have v1 : ((y.toNat : Int) == 45) = true := by rw [h45]; rfl
              have v2 : decide ((y.toNat : Int) = 45) = true := by rw [h45]; rfl
              have HNX : Hid ((1 ≤ i ∧ i < n ∧ (∃ c, l[i]? = some c ∧ (c = 43 ∨ c = 45)) ∧ ∀ j y, 1 ≤ j → j < i → l[j]? = some y → y ≠ 43 ∧ y ≠ 45)) := Lib.hid ⟨hi1, hlt, ⟨y, HY.out, .inr h45⟩, HNO.out⟩
              clear h43 h45 hyq hn43
              go_wp2_with fail
              exact ⟨⟨i, i + 1, by first | rfl | trivial, rfl, rfl, by omega, by omega, Lib.hid (.inr HNX.out)⟩, by simp [intO]; omega⟩
            · have hn45 : y.toNat ≠ 45 := fun h => h45 (UInt8.toNat_inj.1 h)
              have v1 : ((y.toNat : Int) == 45) = false := by simp; omega
              have v2 : decide ((y.toNat : Int) = 45) = false := decide_eq_false (by omega)
              have HNX : Hid (∀ j y, 1 ≤ j → j < i + 1 → l[j]? = some y → y ≠ 43 ∧ y ≠ 45) := Lib.hid fun j z h1 h2 h3 => by
                by_cases hji : j = i
                · subst hji
                  rw [HY.out] at h3
                  injection h3 with h3
                  subst h3
                  exact ⟨h43, h45⟩
                · exact HNO.out j z h1 (by omega) h3
              clear h43 h45 hyq hn43 hn45
              go_wp2_with fail
              exact ⟨⟨0, i + 1, by first | rfl | trivial, rfl, rfl, by omega, by omega, Lib.hid (.inl ⟨rfl, HNX.out⟩)⟩, by simp [intO]; omega⟩
        · have t1 : decide ((i : Int) < n) = false := decide_eq_false (by omega)
          have t2 : decide (i < n) = false := decide_eq_false hlt
          have HQ := Lib.hid (HNF.out fun X Y h => by
            obtain ⟨_, h1, h2, ⟨y, h3, h4⟩, _⟩ := form_at h
            have := HNO.out _ y h1 (by have := HM.out; have := HN1.out; omega) h3
            rcases h4 with h | h
            · exact this.1 h
            · exact this.2 h)
          clear hlt hin
          go_wp2_with fail
          rw [HQ.out]
          refine bodyPost_ret (v := .tuple #[.complex .f64 0 0, .int .i64 2]) (by simp [results, Tryd.results24, go_sem]) rfl ⟨rfl, rfl⟩
      · obtain ⟨hk1, hkn, ⟨c, hc, hcs⟩, hno⟩ : 1 ≤ k ∧ k < n ∧ (∃ c, l[k]? = some c ∧ (c = 43 ∨ c = 45)) ∧ ∀ j y, 1 ≤ j → j < k → l[j]? = some y → y ≠ 43 ∧ y ≠ 45 := by
          rcases HI.out with h | h
          · exact absurd h.1 hk0
          · exact h
        have k1 : ((k : Int) == 0) = false := by simp; omega
        have k2 : decide ((k : Int) = 0) = false := decide_eq_false (by omega)
        have k3 : decide (k = 0) = false := decide_eq_false hk0
        have hknI : (k : Int) ≤ n := by omega
        have hkmI : (k : Int) ≤ m := by omega
        have hkm : k ≤ m := by omega
        have hkn2 : k ≤ n := by omega
        have hmn := HN1.out
        have hml2 := HM.out
        have hln : l.length - 1 = n := by omega
        have hT : (bs l).extract k n = bs ((l.drop k).take (n - k)) := bs_ext l k n
        have hT0 : ∀ h, ((l.drop k).take (n - k))[0]'h = c := fun h => by
          rw [List.getElem_take, List.getElem_drop]
          exact (List.getElem?_eq_some_iff.1 hc).2
        have hTl : ((l.drop k).take (n - k)).length = n - k := by rw [List.length_take, List.length_drop]; omega
        obtain ⟨q, t1, t2⟩ : ∃ q, decide ((i : Int) < n) = q ∧ decide (i < n) = q := ⟨decide (i < n), by simp, rfl⟩
        clear hin
        cases q
        all_goals
         rcases hcs with hc3 | hc5
         · have u1 : ((c.toNat : Int) == 43) = true := by rw [hc3]; rfl
           have u2 : decide ((c.toNat : Int) = 43) = true := by rw [hc3]; rfl
           obtain ⟨Y, hY⟩ : ∃ Y, Y = (l.drop (k + 1)).take (l.length - 1 - (k + 1)) := ⟨_, rfl⟩
           have hYt : ((l.drop k).take (n - k)).drop 1 = Y := by
             rw [hY, List.drop_take, List.drop_drop, hln, show n - k - 1 = n - (k + 1) from by omega]
           have hYl : Y.length = n - (k + 1) := by rw [hY, List.length_take, List.length_drop]; omega
           obtain ⟨T, hTe⟩ : ∃ T, T = (l.drop k).take (n - k) := ⟨_, rfl⟩
           rw [← hTe] at hT hT0 hTl hYt
           have hTs : (bs T).size = n - k := by rw [bs_size, hTl]
           have hTx : (bs T).extract 1 (n - k) = bs Y := by
             rw [bs_ext, List.take_of_length_le (by rw [List.length_drop, hTl]; omega), hYt]
           have hYs : (bs Y).size = n - (k + 1) := by rw [bs_size, hYl]
           obtain ⟨p, hp⟩ : ∃ p, p = n - (k + 1) := ⟨_, rfl⟩
           rw [show n - k = p + 1 from by omega] at hTs hTx
           rw [← hp] at hYs hYl
           have hTs0 : 0 < p + 1 := by omega
           by_cases hY45 : Y.head? = some 45
           · have HQ := Lib.hid (HNF.out fun X Y' h => by
               have := ((form_k h hk1 hc (.inl hc3) hno).2.1 hc3)
               rw [← hY] at this
               rw [this.1] at this
               exact this.2 hY45)
             have hp0 : 0 < p := by
               rcases Y with _ | ⟨y, r⟩
               · cases hY45
               · rw [← hYl]; simp
             have p1 : decide ((p : Int) > 0) = true := decide_eq_true (by omega)
             have p2 : decide (0 < p) = true := decide_eq_true hp0
             have hY0 : ∀ h, Y[0]'h = 45 := fun h => by
               rw [List.head?_eq_getElem?] at hY45
               exact (List.getElem?_eq_some_iff.1 hY45).2
             clear hY hYt hTe hc hc3 hno hY45 hp hln hml2 hmn hYl hTl HI
             go_wp2_with fail
             rw [HQ.out]
             refine bodyPost_ret (v := .tuple #[.complex .f64 0 0, .int .i64 2]) (by simp [results, Tryd.results24, go_sem]) rfl ⟨rfl, rfl⟩
           · have hYY : ∀ y r, Y = y :: r → ((y.toNat : Int) == 45) = false ∧ decide ((y.toNat : Int) = 45) = false := fun y r h => by
               have : y ≠ 45 := fun h2 => hY45 (by rw [h, h2]; rfl)
               have : y.toNat ≠ 45 := fun h => this (UInt8.toNat_inj.1 h)
               exact ⟨by simp; omega, decide_eq_false (by omega)⟩
             obtain ⟨X, hX⟩ : ∃ X, X = l.take k := ⟨_, rfl⟩
             have hxX : (bs l).extract 0 k = bs X := by rw [bs_ext, hX]; rfl
             have HXL : Hid (X.length < 2 ^ 40) := Lib.hid (by rw [hX, List.length_take]; omega)
             have HYL : Hid (Y.length < 2 ^ 40) := Lib.hid (by rw [hYl]; omega)
             have HNO : Hid (decB X = false ∨ decB Y = false → R = .tuple #[.complex .f64 0 0, .int .i64 2]) := Lib.hid fun h => HNF.out fun X' Y' hf => by
               obtain ⟨h1, h2, _⟩ := form_k hf hk1 hc (.inl hc3) hno
               have h2 := (h2 hc3).1
               rw [← hY] at h2
               rw [← hX] at h1
               rw [← h1, ← h2, hf.1, hf.2.1] at h
               simp at h
             have HYES : Hid (decB X = true → decB Y = true → R = match ptOf X Y with
    | some (a, b) => .tuple #[.complex .f64 a b, .int .i64 0]
    | none => .tuple #[.complex .f64 0 0, .int .i64 1]) := Lib.hid fun h1 h2 => HYF.out _ _ (by
               rw [hX] at h1 ⊢
               rw [hY] at h2 hY45 ⊢
               exact form_mk1 HLAST.out (by rw [hc, hc3]) (by omega) h1 h2 hY45)
             rcases hYc : Y with _ | ⟨y, r⟩
             · have hp0 : p = 0 := by rw [hYc] at hYl; simpa using hYl.symm
               have p1 : decide ((p : Int) > 0) = false := decide_eq_false (by omega)
               have p2 : decide (0 < p) = false := decide_eq_false (by omega)
               clear hY hYt hTe hc hc3 hno hY45 hp hln hml2 hmn hYl hTl HI hYY hX hYc hp0
               go_wp2_with fail
               refine (Tryd.rnum X HXL.out _).mono ?_
               rintro e w1 ⟨rfl, rfl⟩
               rcases pnum_e X with ⟨hX, hpX⟩ | ⟨hX, a, hpX⟩ | ⟨hX, hpX⟩
               · have HQ := Lib.hid (HNO.out (.inl hX))
                 rw [hpX]
                 clear hX hpX
                 go_wp2_with fail
                 refine (Tryd.rnum Y HYL.out _).mono ?_
                 rintro e w1 ⟨rfl, rfl⟩
                 obtain ⟨⟨b, f⟩, hpY⟩ : ∃ p, pnum Y = p := ⟨_, rfl⟩
                 rw [hpY]
                 clear hpY
                 go_wp2_with fail
                 rw [HQ.out]
                 refine bodyPost_ret (v := .tuple #[.complex .f64 0 0, .int .i64 2]) (by simp [results, Tryd.results24, go_sem]) rfl ⟨rfl, rfl⟩
               · have HX := Lib.hid hX
                 have HPX := Lib.hid hpX
                 rw [hpX]
                 clear hX hpX
                 go_wp2_with fail
                 refine (Tryd.rnum Y HYL.out _).mono ?_
                 rintro e w1 ⟨rfl, rfl⟩
                 rcases pnum_e Y with ⟨hY, hpY⟩ | ⟨hY, b, hpY⟩ | ⟨hY, hpY⟩
                 · have HQ := Lib.hid (HNO.out (.inr hY))
                   rw [hpY]
                   clear hY hpY
                   go_wp2_with fail
                   rw [HQ.out]
                   refine bodyPost_ret (v := .tuple #[.complex .f64 0 0, .int .i64 2]) (by simp [results, Tryd.results24, go_sem]) rfl ⟨rfl, rfl⟩
                 · have hyes := HYES.out HX.out hY
                   rw [ptOf_pnum HX.out hY, HPX.out, hpY] at hyes
                   dsimp only at hyes
                   rw [hpY]
                   clear hY hpY
                   by_cases h1 : a < -1048576
                   · have HQ := Lib.hid (hyes.trans (by rw [if_neg (by unfold inP; omega)]))
                     have u1 : decide (a < -1048576) = true := decide_eq_true h1
                     clear h1 hyes
                     go_wp2_with fail
                     rw [HQ.out]
                     refine bodyPost_ret (v := .tuple #[.complex .f64 0 0, .int .i64 1]) (by simp [results, Tryd.results24, go_sem]) rfl ⟨rfl, rfl⟩
                   · have u1 : decide (a < -1048576) = false := decide_eq_false h1
                     by_cases h2 : a > 1048576
                     · have HQ := Lib.hid (hyes.trans (by rw [if_neg (by unfold inP; omega)]))
                       have u2 : decide (a > 1048576) = true := decide_eq_true h2
                       clear h1 h2 hyes
                       go_wp2_with fail
                       rw [HQ.out]
                       refine bodyPost_ret (v := .tuple #[.complex .f64 0 0, .int .i64 1]) (by simp [results, Tryd.results24, go_sem]) rfl ⟨rfl, rfl⟩
                     · have u2 : decide (a > 1048576) = false := decide_eq_false h2
                       by_cases h3 : b < -1048576
                       · have HQ := Lib.hid (hyes.trans (by rw [if_neg (by unfold inP; omega)]))
                         have u3 : decide (b < -1048576) = true := decide_eq_true h3
                         clear h1 h2 h3 hyes
                         go_wp2_with fail
                         rw [HQ.out]
                         refine bodyPost_ret (v := .tuple #[.complex .f64 0 0, .int .i64 1]) (by simp [results, Tryd.results24, go_sem]) rfl ⟨rfl, rfl⟩
                       · have u3 : decide (b < -1048576) = false := decide_eq_false h3
                         by_cases h4 : b > 1048576
                         · have HQ := Lib.hid (hyes.trans (by rw [if_neg (by unfold inP; omega)]))
                           have u4 : decide (b > 1048576) = true := decide_eq_true h4
                           clear h1 h2 h3 h4 hyes
                           go_wp2_with fail
                           rw [HQ.out]
                           refine bodyPost_ret (v := .tuple #[.complex .f64 0 0, .int .i64 1]) (by simp [results, Tryd.results24, go_sem]) rfl ⟨rfl, rfl⟩
                         · have u4 : decide (b > 1048576) = false := decide_eq_false h4
                           have HQ := Lib.hid (hyes.trans (by rw [if_pos ⟨rfl, rfl, by unfold inP; omega, by unfold inP; omega⟩]))
                           clear h1 h2 h3 h4 hyes
                           go_wp2_with fail
                           refine (Tryd.rOf a b _).mono ?_
                           rintro e w1 ⟨rfl, rfl⟩
                           go_wp2_with fail
                           rw [HQ.out]
                           refine bodyPost_ret (v := .tuple #[.complex .f64 (Fl a) (Fl b), .int .i64 0]) (by simp [results, Tryd.results24, go_sem]) rfl ⟨rfl, rfl⟩
                 · have hyes := HYES.out HX.out hY
                   rw [ptOf_pnum HX.out hY, HPX.out, hpY] at hyes
                   have HQ := Lib.hid (hyes.trans (by rw [if_neg (by simp)]))
                   rw [hpY]
                   clear hY hpY hyes
                   go_wp2_with fail
                   rw [HQ.out]
                   refine bodyPost_ret (v := .tuple #[.complex .f64 0 0, .int .i64 1]) (by simp [results, Tryd.results24, go_sem]) rfl ⟨rfl, rfl⟩
               · have HX := Lib.hid hX
                 have HPX := Lib.hid hpX
                 rw [hpX]
                 clear hX hpX
                 go_wp2_with fail
                 refine (Tryd.rnum Y HYL.out _).mono ?_
                 rintro e w1 ⟨rfl, rfl⟩
                 rcases pnum_e Y with ⟨hY, hpY⟩ | ⟨hY, b, hpY⟩ | ⟨hY, hpY⟩
                 · have HQ := Lib.hid (HNO.out (.inr hY))
                   rw [hpY]
                   clear hY hpY
                   go_wp2_with fail
                   rw [HQ.out]
                   refine bodyPost_ret (v := .tuple #[.complex .f64 0 0, .int .i64 2]) (by simp [results, Tryd.results24, go_sem]) rfl ⟨rfl, rfl⟩
                 · have hyes := HYES.out HX.out hY
                   rw [ptOf_pnum HX.out hY, HPX.out, hpY] at hyes
                   have HQ := Lib.hid (hyes.trans (by rw [if_neg (by simp)]))
                   rw [hpY]
                   clear hY hpY hyes
                   go_wp2_with fail
                   rw [HQ.out]
                   refine bodyPost_ret (v := .tuple #[.complex .f64 0 0, .int .i64 1]) (by simp [results, Tryd.results24, go_sem]) rfl ⟨rfl, rfl⟩
                 · have hyes := HYES.out HX.out hY
                   rw [ptOf_pnum HX.out hY, HPX.out, hpY] at hyes
                   have HQ := Lib.hid (hyes.trans (by rw [if_neg (by simp)]))
                   rw [hpY]
                   clear hY hpY hyes
                   go_wp2_with fail
                   rw [HQ.out]
                   refine bodyPost_ret (v := .tuple #[.complex .f64 0 0, .int .i64 1]) (by simp [results, Tryd.results24, go_sem]) rfl ⟨rfl, rfl⟩
             · obtain ⟨y1, y2⟩ := hYY y r hYc
               have hY0 : ∀ h, Y[0]'h = y := fun h => by subst hYc; rfl
               have hp0 : 0 < p := by rw [← hYl, hYc]; simp
               have p1 : decide ((p : Int) > 0) = true := decide_eq_true (by omega)
               have p2 : decide (0 < p) = true := decide_eq_true hp0
               clear hY hYt hTe hc hc3 hno hY45 hp hln hml2 hmn hYl hTl HI hYY hX hYc
               go_wp2_with fail
               refine (Tryd.rnum X HXL.out _).mono ?_
               rintro e w1 ⟨rfl, rfl⟩
               rcases pnum_e X with ⟨hX, hpX⟩ | ⟨hX, a, hpX⟩ | ⟨hX, hpX⟩
               · have HQ := Lib.hid (HNO.out (.inl hX))
                 rw [hpX]
                 clear hX hpX
                 go_wp2_with fail
                 refine (Tryd.rnum Y HYL.out _).mono ?_
                 rintro e w1 ⟨rfl, rfl⟩
                 obtain ⟨⟨b, f⟩, hpY⟩ : ∃ p, pnum Y = p := ⟨_, rfl⟩
                 rw [hpY]
                 clear hpY
                 go_wp2_with fail
                 rw [HQ.out]
                 refine bodyPost_ret (v := .tuple #[.complex .f64 0 0, .int .i64 2]) (by simp [results, Tryd.results24, go_sem]) rfl ⟨rfl, rfl⟩
               · have HX := Lib.hid hX
                 have HPX := Lib.hid hpX
                 rw [hpX]
                 clear hX hpX
                 go_wp2_with fail
                 refine (Tryd.rnum Y HYL.out _).mono ?_
                 rintro e w1 ⟨rfl, rfl⟩
                 rcases pnum_e Y with ⟨hY, hpY⟩ | ⟨hY, b, hpY⟩ | ⟨hY, hpY⟩
                 · have HQ := Lib.hid (HNO.out (.inr hY))
                   rw [hpY]
                   clear hY hpY
                   go_wp2_with fail
                   rw [HQ.out]
                   refine bodyPost_ret (v := .tuple #[.complex .f64 0 0, .int .i64 2]) (by simp [results, Tryd.results24, go_sem]) rfl ⟨rfl, rfl⟩
                 · have hyes := HYES.out HX.out hY
                   rw [ptOf_pnum HX.out hY, HPX.out, hpY] at hyes
                   dsimp only at hyes
                   rw [hpY]
                   clear hY hpY
                   by_cases h1 : a < -1048576
                   · have HQ := Lib.hid (hyes.trans (by rw [if_neg (by unfold inP; omega)]))
                     have u1 : decide (a < -1048576) = true := decide_eq_true h1
                     clear h1 hyes
                     go_wp2_with fail
                     rw [HQ.out]
                     refine bodyPost_ret (v := .tuple #[.complex .f64 0 0, .int .i64 1]) (by simp [results, Tryd.results24, go_sem]) rfl ⟨rfl, rfl⟩
                   · have u1 : decide (a < -1048576) = false := decide_eq_false h1
                     by_cases h2 : a > 1048576
                     · have HQ := Lib.hid (hyes.trans (by rw [if_neg (by unfold inP; omega)]))
                       have u2 : decide (a > 1048576) = true := decide_eq_true h2
                       clear h1 h2 hyes
                       go_wp2_with fail
                       rw [HQ.out]
                       refine bodyPost_ret (v := .tuple #[.complex .f64 0 0, .int .i64 1]) (by simp [results, Tryd.results24, go_sem]) rfl ⟨rfl, rfl⟩
                     · have u2 : decide (a > 1048576) = false := decide_eq_false h2
                       by_cases h3 : b < -1048576
                       · have HQ := Lib.hid (hyes.trans (by rw [if_neg (by unfold inP; omega)]))
                         have u3 : decide (b < -1048576) = true := decide_eq_true h3
                         clear h1 h2 h3 hyes
                         go_wp2_with fail
                         rw [HQ.out]
                         refine bodyPost_ret (v := .tuple #[.complex .f64 0 0, .int .i64 1]) (by simp [results, Tryd.results24, go_sem]) rfl ⟨rfl, rfl⟩
                       · have u3 : decide (b < -1048576) = false := decide_eq_false h3
                         by_cases h4 : b > 1048576
                         · have HQ := Lib.hid (hyes.trans (by rw [if_neg (by unfold inP; omega)]))
                           have u4 : decide (b > 1048576) = true := decide_eq_true h4
                           clear h1 h2 h3 h4 hyes
                           go_wp2_with fail
                           rw [HQ.out]
                           refine bodyPost_ret (v := .tuple #[.complex .f64 0 0, .int .i64 1]) (by simp [results, Tryd.results24, go_sem]) rfl ⟨rfl, rfl⟩
                         · have u4 : decide (b > 1048576) = false := decide_eq_false h4
                           have HQ := Lib.hid (hyes.trans (by rw [if_pos ⟨rfl, rfl, by unfold inP; omega, by unfold inP; omega⟩]))
                           clear h1 h2 h3 h4 hyes
                           go_wp2_with fail
                           refine (Tryd.rOf a b _).mono ?_
                           rintro e w1 ⟨rfl, rfl⟩
                           go_wp2_with fail
                           rw [HQ.out]
                           refine bodyPost_ret (v := .tuple #[.complex .f64 (Fl a) (Fl b), .int .i64 0]) (by simp [results, Tryd.results24, go_sem]) rfl ⟨rfl, rfl⟩
                 · have hyes := HYES.out HX.out hY
                   rw [ptOf_pnum HX.out hY, HPX.out, hpY] at hyes
                   have HQ := Lib.hid (hyes.trans (by rw [if_neg (by simp)]))
                   rw [hpY]
                   clear hY hpY hyes
                   go_wp2_with fail
                   rw [HQ.out]
                   refine bodyPost_ret (v := .tuple #[.complex .f64 0 0, .int .i64 1]) (by simp [results, Tryd.results24, go_sem]) rfl ⟨rfl, rfl⟩
               · have HX := Lib.hid hX
                 have HPX := Lib.hid hpX
                 rw [hpX]
                 clear hX hpX
                 go_wp2_with fail
                 refine (Tryd.rnum Y HYL.out _).mono ?_
                 rintro e w1 ⟨rfl, rfl⟩
                 rcases pnum_e Y with ⟨hY, hpY⟩ | ⟨hY, b, hpY⟩ | ⟨hY, hpY⟩
                 · have HQ := Lib.hid (HNO.out (.inr hY))
                   rw [hpY]
                   clear hY hpY
                   go_wp2_with fail
                   rw [HQ.out]
                   refine bodyPost_ret (v := .tuple #[.complex .f64 0 0, .int .i64 2]) (by simp [results, Tryd.results24, go_sem]) rfl ⟨rfl, rfl⟩
                 · have hyes := HYES.out HX.out hY
                   rw [ptOf_pnum HX.out hY, HPX.out, hpY] at hyes
                   have HQ := Lib.hid (hyes.trans (by rw [if_neg (by simp)]))
                   rw [hpY]
                   clear hY hpY hyes
                   go_wp2_with fail
                   rw [HQ.out]
                   refine bodyPost_ret (v := .tuple #[.complex .f64 0 0, .int .i64 1]) (by simp [results, Tryd.results24, go_sem]) rfl ⟨rfl, rfl⟩
                 · have hyes := HYES.out HX.out hY
                   rw [ptOf_pnum HX.out hY, HPX.out, hpY] at hyes
                   have HQ := Lib.hid (hyes.trans (by rw [if_neg (by simp)]))
                   rw [hpY]
                   clear hY hpY hyes
                   go_wp2_with fail
                   rw [HQ.out]
                   refine bodyPost_ret (v := .tuple #[.complex .f64 0 0, .int .i64 1]) (by simp [results, Tryd.results24, go_sem]) rfl ⟨rfl, rfl⟩
         · have u1 : ((c.toNat : Int) == 43) = false := by rw [hc5]; rfl
           have u2 : decide ((c.toNat : Int) = 43) = false := by rw [hc5]; rfl
           obtain ⟨Y, hY⟩ : ∃ Y, Y = (l.drop k).take (l.length - 1 - k) := ⟨_, rfl⟩
           have hYe : (l.drop k).take (n - k) = Y := by rw [hY, hln]
           rw [hYe] at hT hT0 hTl
           obtain ⟨p, hp⟩ : ∃ p, n - k = p + 1 := ⟨n - k - 1, by omega⟩
           have hYs : (bs Y).size = p + 1 := by rw [bs_size, hTl, hp]
           have hp1 : 0 < p + 1 := by omega
           obtain ⟨X, hX⟩ : ∃ X, X = l.take k := ⟨_, rfl⟩
           have hxX : (bs l).extract 0 k = bs X := by rw [bs_ext, hX]; rfl
           have HXL : Hid (X.length < 2 ^ 40) := Lib.hid (by rw [hX, List.length_take]; omega)
           have HYL : Hid (Y.length < 2 ^ 40) := Lib.hid (by rw [hTl]; omega)
           have HNO : Hid (decB X = false ∨ decB Y = false → R = .tuple #[.complex .f64 0 0, .int .i64 2]) := Lib.hid fun h => HNF.out fun X' Y' hf => by
             obtain ⟨h1, _, h2⟩ := form_k hf hk1 hc (.inr hc5) hno
             have h2 := h2 hc5
             rw [← hY] at h2
             rw [← hX] at h1
             rw [← h1, ← h2, hf.1, hf.2.1] at h
             simp at h
           have HYES : Hid (decB X = true → decB Y = true → R = match ptOf X Y with
    | some (a, b) => .tuple #[.complex .f64 a b, .int .i64 0]
    | none => .tuple #[.complex .f64 0 0, .int .i64 1]) := Lib.hid fun h1 h2 => HYF.out _ _ (by
             rw [hX] at h1 ⊢
             rw [hY] at h2 ⊢
             exact form_mk2 HLAST.out (by rw [hc, hc5]) (by omega) h1 h2)
           clear hY hYe hc hc5 hno hp hln hml2 hmn hTl HI hX
           go_wp2_with fail
           refine (Tryd.rnum X HXL.out _).mono ?_
           rintro e w1 ⟨rfl, rfl⟩
           rcases pnum_e X with ⟨hX, hpX⟩ | ⟨hX, a, hpX⟩ | ⟨hX, hpX⟩
           · have HQ := Lib.hid (HNO.out (.inl hX))
             rw [hpX]
             clear hX hpX
             go_wp2_with fail
             refine (Tryd.rnum Y HYL.out _).mono ?_
             rintro e w1 ⟨rfl, rfl⟩
             obtain ⟨⟨b, f⟩, hpY⟩ : ∃ p, pnum Y = p := ⟨_, rfl⟩
             rw [hpY]
             clear hpY
             go_wp2_with fail
             rw [HQ.out]
             refine bodyPost_ret (v := .tuple #[.complex .f64 0 0, .int .i64 2]) (by simp [results, Tryd.results24, go_sem]) rfl ⟨rfl, rfl⟩
           · have HX := Lib.hid hX
             have HPX := Lib.hid hpX
             rw [hpX]
             clear hX hpX
             go_wp2_with fail
             refine (Tryd.rnum Y HYL.out _).mono ?_
             rintro e w1 ⟨rfl, rfl⟩
             rcases pnum_e Y with ⟨hY, hpY⟩ | ⟨hY, b, hpY⟩ | ⟨hY, hpY⟩
             · have HQ := Lib.hid (HNO.out (.inr hY))
               rw [hpY]
               clear hY hpY
               go_wp2_with fail
               rw [HQ.out]
               refine bodyPost_ret (v := .tuple #[.complex .f64 0 0, .int .i64 2]) (by simp [results, Tryd.results24, go_sem]) rfl ⟨rfl, rfl⟩
             · have hyes := HYES.out HX.out hY
               rw [ptOf_pnum HX.out hY, HPX.out, hpY] at hyes
               dsimp only at hyes
               rw [hpY]
               clear hY hpY
               by_cases h1 : a < -1048576
               · have HQ := Lib.hid (hyes.trans (by rw [if_neg (by unfold inP; omega)]))
                 have u1 : decide (a < -1048576) = true := decide_eq_true h1
                 clear h1 hyes
                 go_wp2_with fail
                 rw [HQ.out]
                 refine bodyPost_ret (v := .tuple #[.complex .f64 0 0, .int .i64 1]) (by simp [results, Tryd.results24, go_sem]) rfl ⟨rfl, rfl⟩
               · have u1 : decide (a < -1048576) = false := decide_eq_false h1
                 by_cases h2 : a > 1048576
                 · have HQ := Lib.hid (hyes.trans (by rw [if_neg (by unfold inP; omega)]))
                   have u2 : decide (a > 1048576) = true := decide_eq_true h2
                   clear h1 h2 hyes
                   go_wp2_with fail
                   rw [HQ.out]
                   refine bodyPost_ret (v := .tuple #[.complex .f64 0 0, .int .i64 1]) (by simp [results, Tryd.results24, go_sem]) rfl ⟨rfl, rfl⟩
                 · have u2 : decide (a > 1048576) = false := decide_eq_false h2
                   by_cases h3 : b < -1048576
                   · have HQ := Lib.hid (hyes.trans (by rw [if_neg (by unfold inP; omega)]))
                     have u3 : decide (b < -1048576) = true := decide_eq_true h3
                     clear h1 h2 h3 hyes
                     go_wp2_with fail
                     rw [HQ.out]
                     refine bodyPost_ret (v := .tuple #[.complex .f64 0 0, .int .i64 1]) (by simp [results, Tryd.results24, go_sem]) rfl ⟨rfl, rfl⟩
                   · have u3 : decide (b < -1048576) = false := decide_eq_false h3
                     by_cases h4 : b > 1048576
                     · have HQ := Lib.hid (hyes.trans (by rw [if_neg (by unfold inP; omega)]))
                       have u4 : decide (b > 1048576) = true := decide_eq_true h4
                       clear h1 h2 h3 h4 hyes
                       go_wp2_with fail
                       rw [HQ.out]
                       refine bodyPost_ret (v := .tuple #[.complex .f64 0 0, .int .i64 1]) (by simp [results, Tryd.results24, go_sem]) rfl ⟨rfl, rfl⟩
                     · have u4 : decide (b > 1048576) = false := decide_eq_false h4
                       have HQ := Lib.hid (hyes.trans (by rw [if_pos ⟨rfl, rfl, by unfold inP; omega, by unfold inP; omega⟩]))
                       clear h1 h2 h3 h4 hyes
                       go_wp2_with fail
                       refine (Tryd.rOf a b _).mono ?_
                       rintro e w1 ⟨rfl, rfl⟩
                       go_wp2_with fail
                       rw [HQ.out]
                       refine bodyPost_ret (v := .tuple #[.complex .f64 (Fl a) (Fl b), .int .i64 0]) (by simp [results, Tryd.results24, go_sem]) rfl ⟨rfl, rfl⟩
             · have hyes := HYES.out HX.out hY
               rw [ptOf_pnum HX.out hY, HPX.out, hpY] at hyes
               have HQ := Lib.hid (hyes.trans (by rw [if_neg (by simp)]))
               rw [hpY]
               clear hY hpY hyes
               go_wp2_with fail
               rw [HQ.out]
               refine bodyPost_ret (v := .tuple #[.complex .f64 0 0, .int .i64 1]) (by simp [results, Tryd.results24, go_sem]) rfl ⟨rfl, rfl⟩
           · have HX := Lib.hid hX
             have HPX := Lib.hid hpX
             rw [hpX]
             clear hX hpX
             go_wp2_with fail
             refine (Tryd.rnum Y HYL.out _).mono ?_
             rintro e w1 ⟨rfl, rfl⟩
             rcases pnum_e Y with ⟨hY, hpY⟩ | ⟨hY, b, hpY⟩ | ⟨hY, hpY⟩
             · have HQ := Lib.hid (HNO.out (.inr hY))
               rw [hpY]
               clear hY hpY
               go_wp2_with fail
               rw [HQ.out]
               refine bodyPost_ret (v := .tuple #[.complex .f64 0 0, .int .i64 2]) (by simp [results, Tryd.results24, go_sem]) rfl ⟨rfl, rfl⟩
             · have hyes := HYES.out HX.out hY
               rw [ptOf_pnum HX.out hY, HPX.out, hpY] at hyes
               have HQ := Lib.hid (hyes.trans (by rw [if_neg (by simp)]))
               rw [hpY]
               clear hY hpY hyes
               go_wp2_with fail
               rw [HQ.out]
               refine bodyPost_ret (v := .tuple #[.complex .f64 0 0, .int .i64 1]) (by simp [results, Tryd.results24, go_sem]) rfl ⟨rfl, rfl⟩
             · have hyes := HYES.out HX.out hY
               rw [ptOf_pnum HX.out hY, HPX.out, hpY] at hyes
               have HQ := Lib.hid (hyes.trans (by rw [if_neg (by simp)]))
               rw [hpY]
               clear hY hpY hyes
               go_wp2_with fail
               rw [HQ.out]
               refine bodyPost_ret (v := .tuple #[.complex .f64 0 0, .int .i64 1]) (by simp [results, Tryd.results24, go_sem]) rfl ⟨rfl, rfl⟩
end Go.Proofs.YtlgabpcjhhihdaaDoor
end

section
namespace Go.Proofs.YtlgabpcjhhihdaaDoor
open Go.RowKit Go.NW
set_option maxRecDepth 100000
theorem Tryd.pparse {B : Nat} {w : World} (hD : DoorI B w) (hB : B ≤ w.heap.size) : Calls Tryd.prog 42 #[.string (bs [45, 49, 43, 50, 105])] w fun e w' => e = .returned (.tuple #[.complex .f64 13830554455654793216 4611686018427387904, .int .i64 0]) ∧ Below w.heap.size w w' := by
  have HD := Lib.hid hD
  have hS : (bs [45, 49, 43, 50, 105]).size = 5 := by rw [bs_size]; rfl
  have hG := bs_get
  have hL := bs_list
  have hE := bs_ext
  clear hD
  go_enter Tryd.func42, Tryd.ntmps42
  go_wp2_with fail
  refine (Tryd.end0 _).mono ?_
  rintro e w1 ⟨rfl, rfl⟩
  go_wp2_with fail
  refine (Tryd.end3 _).mono ?_
  rintro e w1 ⟨rfl, rfl⟩
  go_upto_region 12 with fail
  refine wp_region_noPanic ?_
  refine wp_region_held_drew (S := (fun _ => True)) (by kernel_rfl) ?_ (fun hHeld => ?_)
  · trivial
  refine wpAnyH_take (i := 0) (oi := { dst := some 61, op := Op.move (Operand.tmp 0), type := 9, pos := "point.go:148", after := #[], guard := none }) (v := ?_) rfl (by kernel_rfl) (by kernel_rfl) (by kernel_rfl) (fun _ _ _ h => h) (Or.inl ⟨by rfl, ?_⟩) (by assumption) ?_
  rotate_left
  · (intro w hSw; (try dsimp only at hSw); go_simp; try with_reducible rfl)
  try simp only [Act.put, List.setIfInBounds_toArray, List.set_cons_zero, List.set_cons_succ]
  refine wpAnyH_take (i := 1) (oi := { dst := some 62, op := Op.move (Operand.tmp 4), type := 3, pos := "point.go:148", after := #[], guard := none }) (v := ?_) rfl (by kernel_rfl) (by kernel_rfl) (by kernel_rfl) (fun _ _ _ h => h) (Or.inl ⟨by rfl, ?_⟩) (by assumption) ?_
  rotate_left
  · (intro w hSw; (try dsimp only at hSw); go_simp; try with_reducible rfl)
  try simp only [Act.put, List.setIfInBounds_toArray, List.set_cons_zero, List.set_cons_succ]
  refine wpAnyH_take (i := 2) (oi := { dst := some 63, op := Op.slice 9 (Operand.tmp 61) none (some (Operand.tmp 62)) none, type := 9, pos := "point.go:148", after := #[{ on := 0, ground := Ground.data }, { on := 1, ground := Ground.data }], guard := none }) (v := ?_) rfl (by kernel_rfl) (by kernel_rfl) (by kernel_rfl) (fun _ _ _ h => h) (Or.inl ⟨by rfl, ?_⟩) (by assumption) ?_
  rotate_left
  · (intro w hSw; (try dsimp only at hSw); go_simp; try with_reducible rfl)
  try simp only [Act.put, List.setIfInBounds_toArray, List.set_cons_zero, List.set_cons_succ]
  refine wpAnyH_take (i := 3) (oi := { dst := some 64, op := Op.move (Operand.tmp 0), type := 9, pos := "point.go:148", after := #[], guard := none }) (v := ?_) rfl (by kernel_rfl) (by kernel_rfl) (by kernel_rfl) (fun _ _ _ h => h) (Or.inl ⟨by rfl, ?_⟩) (by assumption) ?_
  rotate_left
  · (intro w hSw; (try dsimp only at hSw); go_simp; try with_reducible rfl)
  try simp only [Act.put, List.setIfInBounds_toArray, List.set_cons_zero, List.set_cons_succ]
  refine wpAnyH_take (i := 4) (oi := { dst := some 65, op := Op.move (Operand.tmp 5), type := 3, pos := "point.go:148", after := #[], guard := none }) (v := ?_) rfl (by kernel_rfl) (by kernel_rfl) (by kernel_rfl) (fun _ _ _ h => h) (Or.inl ⟨by rfl, ?_⟩) (by assumption) ?_
  rotate_left
  · (intro w hSw; (try dsimp only at hSw); go_simp; try with_reducible rfl)
  try simp only [Act.put, List.setIfInBounds_toArray, List.set_cons_zero, List.set_cons_succ]
  refine wpAnyH_take (i := 5) (oi := { dst := some 66, op := Op.move (Operand.tmp 6), type := 3, pos := "point.go:148", after := #[], guard := none }) (v := ?_) rfl (by kernel_rfl) (by kernel_rfl) (by kernel_rfl) (fun _ _ _ h => h) (Or.inl ⟨by rfl, ?_⟩) (by assumption) ?_
  rotate_left
  · (intro w hSw; (try dsimp only at hSw); go_simp; try with_reducible rfl)
  try simp only [Act.put, List.setIfInBounds_toArray, List.set_cons_zero, List.set_cons_succ]
  refine wpAnyH_take (i := 6) (oi := { dst := some 67, op := Op.slice 9 (Operand.tmp 64) (some (Operand.tmp 65)) (some (Operand.tmp 66)) none, type := 9, pos := "point.go:148", after := #[{ on := 3, ground := Ground.data }, { on := 4, ground := Ground.data }, { on := 5, ground := Ground.data }], guard := none }) (v := ?_) rfl (by kernel_rfl) (by kernel_rfl) (by kernel_rfl) (fun _ _ _ h => h) (Or.inl ⟨by rfl, ?_⟩) (by assumption) ?_
  rotate_left
  · (intro w hSw; (try dsimp only at hSw); go_simp; try with_reducible rfl)
  try simp only [Act.put, List.setIfInBounds_toArray, List.set_cons_zero, List.set_cons_succ]
  refine wpAnyH_ready (rs := [7]) (by kernel_rfl) (by simp) ?_
  refine AllReadyH.cons (o := { dst := some 68, op := Op.call { callee := Callee.value (Operand.func 56), args := #[Operand.tmp 63, Operand.tmp 67], argTypes := #[9, 9] }, type := 81, pos := "point.go:148", after := #[{ on := 2, ground := Ground.data }, { on := 6, ground := Ground.data }], guard := none }) rfl (fun K hK => ?_) AllReadyH.nil
  go_simp
  refine (Tryd.parts (HD.out.on ((Below.refl B w).drew)) hB).mono ?_
  rintro e V1 ⟨rfl, hb⟩
  have W1 := Lib.hid ((Below.refl w.heap.size w).drew.trans hb)
  clear hb
  refine hK.out _ _ ?_ (fun hHeld => ?_)
  · trivial
  clear hK K
  try simp only [Act.put, List.setIfInBounds_toArray, List.set_cons_zero, List.set_cons_succ]
  refine wpAnyH_take (i := 8) (oi := { dst := some 60, op := Op.move (Operand.tmp 68), type := 81, pos := "point.go:148", after := #[{ on := 7, ground := Ground.data }], guard := none }) (v := ?_) rfl (by kernel_rfl) (by kernel_rfl) (by kernel_rfl) (fun _ _ _ h => h) (Or.inl ⟨by rfl, ?_⟩) (by assumption) ?_
  rotate_left
  · (intro w hSw; (try dsimp only at hSw); go_simp; try with_reducible rfl)
  try simp only [Act.put, List.setIfInBounds_toArray, List.set_cons_zero, List.set_cons_succ]
  refine wpAnyH_take (i := 9) (oi := { dst := some 69, op := Op.extract (Operand.tmp 60) 0, type := 23, pos := "point.go:148", after := #[{ on := 8, ground := Ground.data }], guard := none }) (v := ?_) rfl (by kernel_rfl) (by kernel_rfl) (by kernel_rfl) (fun _ _ _ h => h) (Or.inl ⟨by rfl, ?_⟩) (by assumption) ?_
  rotate_left
  · (intro w hSw; (try dsimp only at hSw); go_simp; try with_reducible rfl)
  try simp only [Act.put, List.setIfInBounds_toArray, List.set_cons_zero, List.set_cons_succ]
  refine wpAnyH_take (i := 10) (oi := { dst := some 70, op := Op.extract (Operand.tmp 60) 1, type := 4, pos := "point.go:148", after := #[{ on := 8, ground := Ground.data }, { on := 11, ground := Ground.gcOnly Departure.lateStores }], guard := none }) (v := ?_) rfl (by kernel_rfl) (by kernel_rfl) (by kernel_rfl) (fun _ _ _ h => h) (Or.inl ⟨by rfl, ?_⟩) (by assumption) ?_
  rotate_left
  · (intro w hSw; (try dsimp only at hSw); go_simp; try with_reducible rfl)
  try simp only [Act.put, List.setIfInBounds_toArray, List.set_cons_zero, List.set_cons_succ]
  refine wpAnyH_take (i := 11) (oi := { dst := some 7, op := Op.assign (Operand.tmp 69), type := 23, pos := "point.go:148", after := #[{ on := 9, ground := Ground.data }, { on := 7, ground := Ground.chain }, { on := 0, ground := Ground.phase }, { on := 1, ground := Ground.phase }, { on := 2, ground := Ground.phase }, { on := 3, ground := Ground.phase }, { on := 4, ground := Ground.phase }, { on := 5, ground := Ground.phase }, { on := 6, ground := Ground.phase }, { on := 7, ground := Ground.phase }, { on := 8, ground := Ground.phase }, { on := 9, ground := Ground.phase }, { on := 10, ground := Ground.textOnly Departure.lateStores }], guard := none }) (v := ?_) rfl (by kernel_rfl) (by kernel_rfl) (by kernel_rfl) (fun _ _ _ h => h) (Or.inl ⟨by rfl, ?_⟩) (by assumption) ?_
  rotate_left
  · (intro w hSw; (try dsimp only at hSw); go_simp; try with_reducible rfl)
  try simp only [Act.put, List.setIfInBounds_toArray, List.set_cons_zero, List.set_cons_succ]
  refine wpAnyH_take (i := 12) (oi := { dst := some 8, op := Op.assign (Operand.tmp 70), type := 4, pos := "point.go:148", after := #[{ on := 10, ground := Ground.data }, { on := 11, ground := Ground.chain }, { on := 0, ground := Ground.phase }, { on := 1, ground := Ground.phase }, { on := 2, ground := Ground.phase }, { on := 3, ground := Ground.phase }, { on := 4, ground := Ground.phase }, { on := 5, ground := Ground.phase }, { on := 6, ground := Ground.phase }, { on := 7, ground := Ground.phase }, { on := 8, ground := Ground.phase }, { on := 9, ground := Ground.phase }, { on := 10, ground := Ground.phase }, { on := 11, ground := Ground.phase }], guard := none }) (v := ?_) rfl (by kernel_rfl) (by kernel_rfl) (by kernel_rfl) (fun _ _ _ h => h) (Or.inl ⟨by rfl, ?_⟩) (by assumption) ?_
  rotate_left
  · (intro w hSw; (try dsimp only at hSw); go_simp; try with_reducible rfl)
  try simp only [Act.put, List.setIfInBounds_toArray, List.set_cons_zero, List.set_cons_succ]
  refine wpAnyH_done (by kernel_rfl) ?_ _
  refine NoPanic.normal ?_
  clear hHeld
  go_wp2_with fail
  refine bodyPost_ret (v := .tuple #[.complex .f64 13830554455654793216 4611686018427387904, .int .i64 0]) (by simp [results, Tryd.results42, go_sem]) rfl ⟨rfl, W1.out⟩
end Go.Proofs.YtlgabpcjhhihdaaDoor
end
