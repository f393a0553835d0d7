/-
  Texts of a proof over the translated program: NxN.
-/
import Derived.Test.YtcogajgikmcfpaaGreatDoorQNxE2
set_option linter.unusedVariables false
set_option linter.unusedSimpArgs false
set_option linter.unusedSectionVars false
namespace Go.Proofs.YtcogajgikmcfpaaGreatDoor
open Go.RowKit Go.NW
set_option maxRecDepth 100000
def hv (c : UInt8) : Int := Lib.indexByte [48, 49, 50, 51, 52, 53, 54, 55, 56, 57, 97, 98, 99, 100, 101, 102] c
theorem hv_all : ∀ n, n < 256 → hv (UInt8.ofNat n) = -1 ∨ (0 ≤ hv (UInt8.ofNat n) ∧ hv (UInt8.ofNat n) < 16) := by decide +kernel
theorem hv_range (c : UInt8) : hv c = -1 ∨ ∃ p : Nat, p < 16 ∧ hv c = p := by
  have h := hv_all c.toNat c.toNat_lt
  rw [UInt8.ofNat_toNat] at h
  rcases h with h | ⟨h1, h2⟩
  · exact .inl h
  · exact .inr ⟨(hv c).toNat, by omega, by omega⟩
def byteOf (a b : UInt8) : UInt8 := UInt8.ofNat ((hv a).toNat * 16 + (hv b).toNat)
def unhex : List UInt8 → Option (List UInt8)
  | [] => some []
  | [_] => none
  | a :: b :: r => if hv a < 0 ∨ hv b < 0 then none else (unhex r).map (byteOf a b :: ·)
theorem unhex_app : ∀ (k : Nat) (p r : List UInt8), p.length = 2 * k → unhex (p ++ r) = (unhex p).bind fun X => (unhex r).map (X ++ ·)
  | 0, p, r, h => by
    obtain rfl : p = [] := List.eq_nil_of_length_eq_zero (by omega)
    simp [unhex]
  | k + 1, p, r, h => by
    match p, h with
    | a :: b :: q, h =>
      simp only [List.length_cons] at h
      simp only [List.cons_append, unhex]
      rw [unhex_app k q r (by omega)]
      split
      · rfl
      · cases unhex q with
        | none => rfl
        | some X =>
          simp only [Option.bind_some, Option.map_some]
          cases unhex r <;> rfl
def pbytes (l : List UInt8) : Value × Int := if l.length % 2 = 0 then match unhex l with
    | none => (v0, 2)
    | some X => if X.length > 255 then (v0, 4) else (vS (bs X), 0)
  else (v0, 2)
theorem or16 : ∀ p, p < 16 → ∀ q, q < 16 → Go.bits .or .i64 ((p * 16 : Nat) : Int) ((q : Nat) : Int) = ((p * 16 + q : Nat) : Int) := by decide +kernel
theorem unhex_len : ∀ (l X : List UInt8), unhex l = some X → 2 * X.length = l.length
  | [], X, h => by simp [unhex] at h; subst h; rfl
  | [a], X, h => by simp [unhex] at h
  | a :: b :: r, X, h => by
    simp only [unhex] at h
    split at h
    · cases h
    · obtain ⟨Y, hY, rfl⟩ := Option.map_eq_some_iff.1 h
      have := unhex_len r Y hY
      simp only [List.length_cons]
      omega
theorem take2 (l : List UInt8) (i : Nat) (y1 y2 : UInt8) (h1 : l[i]? = some y1) (h2 : l[i + 1]? = some y2) : l = l.take i ++ (y1 :: y2 :: l.drop (i + 2)) := by
  obtain ⟨k1, e1⟩ := List.getElem?_eq_some_iff.1 h1
  obtain ⟨k2, e2⟩ := List.getElem?_eq_some_iff.1 h2
  rw [← e1, ← e2, ← List.drop_eq_getElem_cons, ← List.drop_eq_getElem_cons, List.take_append_drop]
theorem unhex_bad (l : List UInt8) (k : Nat) (y1 y2 : UInt8) (h1 : l[2 * k]? = some y1) (h2 : l[2 * k + 1]? = some y2) (h : hv y1 < 0 ∨ hv y2 < 0) : unhex l = none := by
  have k1 := (List.getElem?_eq_some_iff.1 h1).1
  rw [take2 l (2 * k) y1 y2 h1 h2, unhex_app k (l.take (2 * k)) _ (by rw [List.length_take]; omega)]
  cases unhex (l.take (2 * k)) with
  | none => rfl
  | some X => simp only [Option.bind_some, unhex, if_pos h]; rfl
theorem unhex_more (l : List UInt8) (k : Nat) (y1 y2 : UInt8) (X : List UInt8) (h1 : l[2 * k]? = some y1) (h2 : l[2 * k + 1]? = some y2) (h : ¬ (hv y1 < 0 ∨ hv y2 < 0)) (hX : unhex (l.take (2 * k)) = some X) : unhex (l.take (2 * (k + 1))) = some (X ++ [byteOf y1 y2]) := by
  have k1 := (List.getElem?_eq_some_iff.1 h1).1
  rw [show 2 * (k + 1) = 2 * k + 1 + 1 by omega, List.take_add_one, List.take_add_one, h1, h2]
  simp only [Option.toList_some, List.append_assoc, List.singleton_append]
  rw [unhex_app k (l.take (2 * k)) _ (by rw [List.length_take]; omega), hX]
  simp only [Option.bind_some, unhex, if_neg h]
  rfl
set_option maxHeartbeats 2000000 in
theorem Tryz.parseBytes (l : List UInt8) (hl : l.length < 2 ^ 40) (w : World) :
    Calls Tryz.prog 99 #[.string (bs l)] w fun e w' => e = .returned (.tuple #[(pbytes l).1, .int .i64 (pbytes l).2]) ∧ Below w.heap.size w w' := by
  have hsc := storeC
  obtain ⟨m, hm⟩ : ∃ m, m = l.length := ⟨_, rfl⟩
  have hS1 : (bs l).size = m := by rw [bs_size, hm]
  have hG := bs_get
  have HM := Lib.hid hm
  rw [← hm] at hl
  have hP : pbytes l = (if m % 2 = 0 then match unhex l with
    | none => (v0, 2)
    | some X => if X.length > 255 then (v0, 4) else (vS (bs X), 0)
  else (v0, 2) : Value × Int) := by rw [hm]; rfl
  have hmod : (m : Int).tmod 2 = ((m % 2 : Nat) : Int) := by rw [Int.tmod_eq_emod_of_nonneg (by omega)]; rfl
  clear hm
  by_cases hodd : m % 2 = 0
  · rw [if_pos hodd] at hP
    have t0 : ((m : Int) % 2) = 0 := by omega
    have HP := Lib.hid hP
    have HO := Lib.hid hodd
    generalize pbytes l = R at HP ⊢
    clear hP hodd
    go_enter Tryz.func99, Tryz.ntmps99
    go_wp2_with fail
    clear hmod t0
    have hfb := Lib.fresh_isBuilder 90 5 (w.alloc (.cells #[.int .i64 0, .int .i64 0, .string ⟨#[]⟩, .complex .f64 0 0] 25))
    have hsz1 : (w.alloc (.cells #[.int .i64 0, .int .i64 0, .string ⟨#[]⟩, .complex .f64 0 0] 25)).heap.size = w.heap.size + 1 := by simp
    rw [hsz1] at hfb
    have hbox := heap_alloc_new w (.cells #[.int .i64 0, .int .i64 0, .string ⟨#[]⟩, .complex .f64 0 0] 25)
    have B00 := (Below.refl _ w).alloc (Nat.le_refl _) (.cells #[.int .i64 0, .int .i64 0, .string ⟨#[]⟩, .complex .f64 0 0] 25)
    obtain ⟨wa, hwa⟩ : ∃ wa, wa = w.alloc (.cells #[.int .i64 0, .int .i64 0, .string ⟨#[]⟩, .complex .f64 0 0] 25) := ⟨_, rfl⟩
    have B01 : Below (w.heap.size + 1) wa (wa.alloc (.cells #[.pointer none, .slice none 0 0] 90)) := (Below.refl _ wa).alloc (by rw [hwa, hsz1]; exact Nat.le_refl _) _
    rw [← hwa] at hfb hbox B00 ⊢
    rw [← hwa] at hsz1
    have HFB := Lib.hid hfb
    have HBX := Lib.hid hbox
    have HB0 := Lib.hid B00
    have HB1 := Lib.hid B01
    have HSZ := Lib.hid hsz1
    clear hwa hfb hbox B00 B01 hsz1
    go_loopw [5] (fun t5 W => ∃ (k : Nat) (X : List UInt8), 2 * k ≤ m ∧ t5 = .int .i64 ((2 * k : Nat) : Int) ∧ Hid (unhex (l.take (2 * k)) = some X) ∧ Hid (Lib.IsBuilder 90 5 (w.heap.size + 1) (w.heap.size + 1) (Lib.byteCells X) W) ∧ Hid (Below (w.heap.size + 1) wa W)) (fun t5 _ => m - (intO t5).toNat)
    case atStart => exact ⟨0, [], Nat.zero_le _, rfl, Lib.hid (by simp [unhex]), Lib.hid (by simpa [Lib.byteCells] using HFB.out), HB1⟩
    case round =>
      rename World => W
      obtain ⟨k, X, hk, rfl, HX, HI, HB⟩ := hrel
      obtain ⟨i, hi⟩ : ∃ i, i = 2 * k := ⟨_, rfl⟩
      have hcell : W.heap[w.heap.size]? = some (.cells #[.int .i64 0, .int .i64 0, .string ⟨#[]⟩, .complex .f64 0 0] 25 (0, 0)) := (HB.out.block _ (Nat.lt_succ_self _)).trans HBX.out
      have HBW : Hid (Below w.heap.size w W) := Lib.hid (HB0.out.trans (HB.out.mono (Nat.le_succ _)))
      have HBL : Hid (w.heap.size + 1 ≤ W.heap.size) := Lib.hid (by have := HB.out.size; have := HSZ.out; omega)
      have HXL := Lib.hid (unhex_len _ _ HX.out)
      rw [← hi] at hk HX HXL ⊢
      by_cases hlt : i < m
      · have hmk : i + 1 < m := by have := HO.out; omega
        have t1 : decide ((i : Int) < m) = true := decide_eq_true (by omega)
        have t2 : decide (i < m) = true := decide_eq_true hlt
        obtain ⟨y1, hy1⟩ : ∃ y, l[i]'(by rw [← HM.out]; exact hlt) = y := ⟨_, rfl⟩
        obtain ⟨y2, hy2⟩ : ∃ y, l[i + 1]'(by rw [← HM.out]; exact hmk) = y := ⟨_, rfl⟩
        have HY1 : Hid (l[2 * k]? = some y1) := Lib.hid (by rw [← hi, List.getElem?_eq_getElem (by rw [← HM.out]; exact hlt), hy1])
        have HY2 : Hid (l[2 * k + 1]? = some y2) := Lib.hid (by rw [← hi, List.getElem?_eq_getElem (by rw [← HM.out]; exact hmk), hy2])
        have z1 : (i : Int) + 1 < m := by omega
        have hw1 : IntKind.i64.wrap ((i : Int) + 1) = (i : Int) + 1 := by rw [IntKind.wrap_i64]; omega
        have hw2 : ((i : Int) + 1).toNat = i + 1 := by omega
        have hw3 : (0 : Int) ≤ (i : Int) + 1 := by omega
        have HI2 := Lib.hid hi
        clear hi
        go_upto_region 7 with fail
        refine wp_region_noPanic ?_
        refine wp_region_held_drew (S := (fun _ => True)) (by kernel_rfl) ?_ (fun hHeld => ?_)
        · trivial
        refine wpAnyH_take (i := 0) (oi := { dst := some 19, op := Op.move (Operand.tmp 0), type := 9, pos := "val.go:168", after := #[], guard := none }) (v := ?_) rfl (by kernel_rfl) (by kernel_rfl) (by kernel_rfl) (fun _ _ _ h => h) (Or.inl ⟨by rfl, ?_⟩) (by assumption) ?_
        rotate_left
        · (intro w hSw; (try dsimp only at hSw); go_simp; try with_reducible rfl)
        try simp only [Act.put, List.setIfInBounds_toArray, List.set_cons_zero, List.set_cons_succ]
        refine wpAnyH_take (i := 1) (oi := { dst := some 20, op := Op.move (Operand.tmp 5), type := 3, pos := "val.go:168", after := #[], guard := none }) (v := ?_) rfl (by kernel_rfl) (by kernel_rfl) (by kernel_rfl) (fun _ _ _ h => h) (Or.inl ⟨by rfl, ?_⟩) (by assumption) ?_
        rotate_left
        · (intro w hSw; (try dsimp only at hSw); go_simp; try with_reducible rfl)
        try simp only [Act.put, List.setIfInBounds_toArray, List.set_cons_zero, List.set_cons_succ]
        refine wpAnyH_take (i := 2) (oi := { dst := some 21, op := Op.index 9 (Operand.tmp 19) (Operand.tmp 20), type := 5, pos := "val.go:168", after := #[{ on := 0, ground := Ground.data }, { on := 1, ground := Ground.data }], guard := none }) (v := ?_) rfl (by kernel_rfl) (by kernel_rfl) (by kernel_rfl) (fun _ _ _ h => h) (Or.inl ⟨by rfl, ?_⟩) (by assumption) ?_
        rotate_left
        · (intro w hSw; (try dsimp only at hSw); go_simp; try with_reducible rfl)
        try simp only [Act.put, List.setIfInBounds_toArray, List.set_cons_zero, List.set_cons_succ]
        refine wpAnyH_take (i := 4) (oi := { dst := some 23, op := Op.move (Operand.tmp 0), type := 9, pos := "val.go:168", after := #[], guard := none }) (v := ?_) rfl (by kernel_rfl) (by kernel_rfl) (by kernel_rfl) (fun _ _ _ h => h) (Or.inl ⟨by rfl, ?_⟩) (by assumption) ?_
        rotate_left
        · (intro w hSw; (try dsimp only at hSw); go_simp; try with_reducible rfl)
        try simp only [Act.put, List.setIfInBounds_toArray, List.set_cons_zero, List.set_cons_succ]
        refine wpAnyH_take (i := 5) (oi := { dst := some 24, op := Op.move (Operand.tmp 5), type := 3, pos := "val.go:168", after := #[], guard := none }) (v := ?_) rfl (by kernel_rfl) (by kernel_rfl) (by kernel_rfl) (fun _ _ _ h => h) (Or.inl ⟨by rfl, ?_⟩) (by assumption) ?_
        rotate_left
        · (intro w hSw; (try dsimp only at hSw); go_simp; try with_reducible rfl)
        try simp only [Act.put, List.setIfInBounds_toArray, List.set_cons_zero, List.set_cons_succ]
        refine wpAnyH_take (i := 6) (oi := { dst := some 25, op := Op.binOp BinOp.add 3 (Operand.tmp 24) (Operand.const (Value.int IntKind.i64 1)) 3, type := 3, pos := "val.go:168", after := #[{ on := 5, ground := Ground.data }], guard := none }) (v := ?_) rfl (by kernel_rfl) (by kernel_rfl) (by kernel_rfl) (fun _ _ _ h => h) (Or.inl ⟨by rfl, ?_⟩) (by assumption) ?_
        rotate_left
        · (intro w hSw; (try dsimp only at hSw); go_simp; try with_reducible rfl)
        try simp only [Act.put, List.setIfInBounds_toArray, List.set_cons_zero, List.set_cons_succ]
        refine wpAnyH_take (i := 7) (oi := { dst := some 26, op := Op.index 9 (Operand.tmp 23) (Operand.tmp 25), type := 5, pos := "val.go:168", after := #[{ on := 4, ground := Ground.data }, { on := 6, ground := Ground.data }], guard := none }) (v := ?_) rfl (by kernel_rfl) (by kernel_rfl) (by kernel_rfl) (fun _ _ _ h => h) (Or.inl ⟨by rfl, ?_⟩) (by assumption) ?_
        rotate_left
        · (intro w hSw; (try dsimp only at hSw); go_simp; try with_reducible rfl)
        try simp only [Act.put, List.setIfInBounds_toArray, List.set_cons_zero, List.set_cons_succ]
        refine wpAnyH_ready (rs := [3]) (by kernel_rfl) (by simp) ?_
        refine AllReadyH.cons (o := { dst := some 22, op := Op.call { callee := Callee.value (Operand.func 120), args := #[Operand.tmp 21], argTypes := #[5] }, type := 3, pos := "val.go:168", after := #[{ on := 2, ground := Ground.data }], guard := none }) rfl (fun K hK => ?_) AllReadyH.nil
        go_simp
        refine (Tryz.digit y1 _).mono ?_
        rintro e V1 ⟨rfl, rfl⟩
        refine hK.out _ _ ?_ (fun hHeld => ?_)
        · trivial
        clear hK K
        try simp only [Act.put, List.setIfInBounds_toArray, List.set_cons_zero, List.set_cons_succ]
        refine wpAnyH_ready (rs := [8]) (by kernel_rfl) (by simp) ?_
        refine AllReadyH.cons (o := { dst := some 27, op := Op.call { callee := Callee.value (Operand.func 120), args := #[Operand.tmp 26], argTypes := #[5] }, type := 3, pos := "val.go:168", after := #[{ on := 7, ground := Ground.data }, { on := 3, ground := Ground.chain }], guard := none }) rfl (fun K hK => ?_) AllReadyH.nil
        go_simp
        refine (Tryz.digit y2 _).mono ?_
        rintro e V2 ⟨rfl, rfl⟩
        refine hK.out _ _ ?_ (fun hHeld => ?_)
        · trivial
        clear hK K
        try simp only [Act.put, List.setIfInBounds_toArray, List.set_cons_zero, List.set_cons_succ]
        refine wpAnyH_take (i := 9) (oi := { dst := some 6, op := Op.assign (Operand.tmp 22), type := 3, pos := "val.go:168", after := #[{ on := 3, ground := Ground.data }, { on := 8, ground := Ground.chain }, { on := 0, ground := Ground.phase }, { on := 1, ground := Ground.phase }, { on := 2, ground := Ground.phase }, { on := 3, ground := Ground.phase }, { on := 4, ground := Ground.textOnly Departure.lateStores }, { on := 5, ground := Ground.textOnly Departure.lateStores }, { on := 6, ground := Ground.textOnly Departure.lateStores }, { on := 7, ground := Ground.textOnly Departure.lateStores }, { on := 8, ground := Ground.textOnly Departure.lateStoresUnsure }], guard := none }) (v := ?_) rfl (by kernel_rfl) (by kernel_rfl) (by kernel_rfl) (fun _ _ _ h => h) (Or.inl ⟨by rfl, ?_⟩) (by assumption) ?_
        rotate_left
        · (intro w hSw; (try dsimp only at hSw); go_simp; try with_reducible rfl)
        try simp only [Act.put, List.setIfInBounds_toArray, List.set_cons_zero, List.set_cons_succ]
        refine wpAnyH_take (i := 10) (oi := { dst := some 7, op := Op.assign (Operand.tmp 27), type := 3, pos := "val.go:168", after := #[{ on := 8, ground := Ground.data }, { on := 9, ground := Ground.chain }, { on := 0, ground := Ground.phase }, { on := 1, ground := Ground.phase }, { on := 2, ground := Ground.phase }, { on := 3, ground := Ground.phase }, { on := 4, ground := Ground.phase }, { on := 5, ground := Ground.phase }, { on := 6, ground := Ground.phase }, { on := 7, ground := Ground.phase }, { on := 8, ground := Ground.phase }, { on := 9, ground := Ground.phase }], guard := none }) (v := ?_) rfl (by kernel_rfl) (by kernel_rfl) (by kernel_rfl) (fun _ _ _ h => h) (Or.inl ⟨by rfl, ?_⟩) (by assumption) ?_
        rotate_left
        · (intro w hSw; (try dsimp only at hSw); go_simp; try with_reducible rfl)
        try simp only [Act.put, List.setIfInBounds_toArray, List.set_cons_zero, List.set_cons_succ]
        refine wpAnyH_done (by kernel_rfl) ?_ _
        refine NoPanic.normal ?_
        clear hHeld
        obtain ⟨p, hp⟩ : ∃ p, hv y1 = p := ⟨_, rfl⟩
        obtain ⟨q, hq⟩ : ∃ q, hv y2 = q := ⟨_, rfl⟩
        rw [show Lib.indexByte [48, 49, 50, 51, 52, 53, 54, 55, 56, 57, 97, 98, 99, 100, 101, 102] y1 = p from hp, show Lib.indexByte [48, 49, 50, 51, 52, 53, 54, 55, 56, 57, 97, 98, 99, 100, 101, 102] y2 = q from hq]
        have hcell3 : W.drew.heap[w.heap.size]? = some (.cells #[.int .i64 0, .int .i64 0, .string ⟨#[]⟩, .complex .f64 0 0] 25 (0, 0)) := hcell
        have HI3 : Hid (Lib.IsBuilder 90 5 (w.heap.size + 1) (w.heap.size + 1) (Lib.byteCells X) W.drew) := Lib.hid (HI.out.imp (fun h => h.drew) (fun h => h.drew))
        have HBW3 : Hid (Below w.heap.size w W.drew) := Lib.hid HBW.out.drew
        have HB3 : Hid (Below (w.heap.size + 1) wa W.drew) := Lib.hid HB.out.drew
        have HBL3 : Hid (w.heap.size + 1 ≤ W.drew.heap.size) := Lib.hid HBL.out
        generalize W.drew = V at hcell3 HI3 HBW3 HB3 HBL3 ⊢
        clear hcell HI HBW HB HBL
        have hp2 := hv_range y1
        have hq2 := hv_range y2
        rw [hp] at hp2
        rw [hq] at hq2
        have HPQ := Lib.hid (And.intro hp hq)
        clear hp hq
        by_cases hp0 : p < 0
        · have d1 : decide (p < 0) = true := decide_eq_true hp0
          have hR := HP.out
          rw [unhex_bad l k y1 y2 HY1.out HY2.out (.inl (by rw [HPQ.out.1]; exact hp0))] at hR
          subst hR
          clear HP
          go_wp2_with (refine nw_store_row _ rfl 25 (.tmp 2) (.tmp 34) rfl w.heap.size 25 (cells4 0 0 ⟨#[]⟩ 0 0) zero4 rfl rfl hcell3 rfl (Tryz.size25 _ rfl) (one4 _ _ _ _ _) ?_)
          refine bodyPost_ret (v := .tuple #[v0, .int .i64 2]) (nw_results (show Tryz.f99.results = #[.cell 2 25, .tmp 3] from rfl) _ _ w.heap.size 25 (cells4 0 0 ⟨#[]⟩ 0 0) _ rfl (setRow_heap' _ _ _ _ _ hcell3) (Tryz.size25 _ rfl) Tryz.st25) rfl ⟨rfl, below_setRow HBW3.out (Nat.le_refl _) _⟩
        · have d1 : decide (p < 0) = false := decide_eq_false hp0
          by_cases hq0 : q < 0
          · have d2 : decide (q < 0) = true := decide_eq_true hq0
            have hR := HP.out
            rw [unhex_bad l k y1 y2 HY1.out HY2.out (.inr (by rw [HPQ.out.2]; exact hq0))] at hR
            subst hR
            clear HP
            go_wp2_with (refine nw_store_row _ rfl 25 (.tmp 2) (.tmp 34) rfl w.heap.size 25 (cells4 0 0 ⟨#[]⟩ 0 0) zero4 rfl rfl hcell3 rfl (Tryz.size25 _ rfl) (one4 _ _ _ _ _) ?_)
            refine bodyPost_ret (v := .tuple #[v0, .int .i64 2]) (nw_results (show Tryz.f99.results = #[.cell 2 25, .tmp 3] from rfl) _ _ w.heap.size 25 (cells4 0 0 ⟨#[]⟩ 0 0) _ rfl (setRow_heap' _ _ _ _ _ hcell3) (Tryz.size25 _ rfl) Tryz.st25) rfl ⟨rfl, below_setRow HBW3.out (Nat.le_refl _) _⟩
          · have d2 : decide (q < 0) = false := decide_eq_false hq0
            obtain ⟨P, hP16, rfl⟩ : ∃ P : Nat, P < 16 ∧ p = P := by
              rcases hp2 with h | ⟨P, h1, h2⟩
              · omega
              · exact ⟨P, h1, h2⟩
            obtain ⟨Q, hQ16, rfl⟩ : ∃ P : Nat, P < 16 ∧ q = P := by
              rcases hq2 with h | ⟨P, h1, h2⟩
              · omega
              · exact ⟨P, h1, h2⟩
            have hmore := unhex_more l k y1 y2 X HY1.out HY2.out (by rw [HPQ.out.1, HPQ.out.2]; omega) (by rw [← HI2.out]; exact HX.out)
            have HMORE := Lib.hid hmore
            have hor := or16 P hP16 Q hQ16
            clear hmore hp2 hq2
            have hbo : bits BinOp.or IntKind.i64 ((P : Int) * 16) (Q : Int) % 256 = ((byteOf y1 y2).toNat : Int) := by
              have h1 : bits BinOp.or IntKind.i64 ((P : Int) * 16) (Q : Int) = ((P * 16 + Q : Nat) : Int) := by rw [← hor]; rfl
              have h2 : (byteOf y1 y2).toNat = (P * 16 + Q) % 256 := by
                unfold byteOf
                rw [HPQ.out.1, HPQ.out.2, UInt8.toNat_ofNat']
                rfl
              rw [h1, h2]
              omega
            have HBO := Lib.hid hbo
            have hxl : 2 * (Lib.byteCells X).length = (l.take i).length := by rw [bc_len]; exact HXL.out
            have HXC : Hid ((Lib.byteCells X).length + 1 ≤ 140737488355328) := Lib.hid (by rw [List.length_take] at hxl; omega)
            clear hor hbo hxl
            go_wp2_with fail
            rw [HBO.out]
            refine (Tryz.writeByte _ _ _ _ _ HI3.out HXC.out HBL3.out).mono ?_
            rintro e W1 ⟨rfl, h1, hb1⟩
            rw [bc_snoc] at h1
            have H1 := Lib.hid h1
            have BB1 := Lib.hid (HB3.out.trans hb1)
            clear h1 hb1
            go_wp2_with fail
            exact ⟨⟨k + 1, X ++ [byteOf y1 y2], by have := HI2.out; omega, by congr 1; have := HI2.out; omega, HMORE, H1, BB1⟩, by simp [intO]; omega⟩
      · obtain rfl : i = m := by omega
        have t1 : decide ((i : Int) < i) = false := decide_eq_false (by omega)
        have t2 : decide (i < i) = false := decide_eq_false (by omega)
        have hR := HP.out
        have hX := HX.out
        rw [show l.take i = l by rw [HM.out, List.take_length]] at hX
        rw [hX] at hR
        dsimp only at hR
        have HR := Lib.hid hR
        obtain ⟨N, hN⟩ : ∃ N, (Lib.byteCells X).length = N := ⟨_, rfl⟩
        have hN2 : X.length = N := by rw [← hN, bc_len]
        rw [hN2] at hR
        have HR2 := Lib.hid hR
        have HN := Lib.hid hN
        clear hR hX HP HX hi HR hN hN2
        go_wp2_with fail
        refine (Tryz.Builder_Len _ _ _ _ HI.out).mono ?_
        rintro e W1 ⟨rfl, rfl⟩
        rw [HN.out]
        by_cases hbig : N > 255
        · have d1 : decide ((N : Int) > 255) = true := decide_eq_true (by omega)
          have hR := HR2.out
          rw [if_pos hbig] at hR
          subst hR
          clear HR2
          go_wp2_with (refine nw_store_row _ rfl 25 (.tmp 2) (.tmp 43) rfl w.heap.size 25 (cells4 0 0 ⟨#[]⟩ 0 0) zero4 rfl rfl hcell rfl (Tryz.size25 _ rfl) (one4 _ _ _ _ _) ?_)
          refine bodyPost_ret (v := .tuple #[v0, .int .i64 4]) (nw_results (show Tryz.f99.results = #[.cell 2 25, .tmp 3] from rfl) _ _ w.heap.size 25 (cells4 0 0 ⟨#[]⟩ 0 0) _ rfl (setRow_heap' _ _ _ _ _ hcell) (Tryz.size25 _ rfl) Tryz.st25) rfl ⟨rfl, below_setRow HBW.out (Nat.le_refl _) _⟩
        · have d1 : decide ((N : Int) > 255) = false := decide_eq_false (by omega)
          have hR := HR2.out
          rw [if_neg hbig] at hR
          subst hR
          clear HR2
          go_wp2_with fail
          refine (Tryz.Builder_String_any _ _ _ _ HI.out HBL.out).mono ?_
          rintro e W2 ⟨rfl, hb2⟩
          have HBW2 : Hid (Below w.heap.size w W2) := Lib.hid (HBW.out.trans (hb2.mono (Nat.le_succ _)))
          have hcell2 : W2.heap[w.heap.size]? = some (.cells #[.int .i64 0, .int .i64 0, .string ⟨#[]⟩, .complex .f64 0 0] 25 (0, 0)) := (hb2.block _ (Nat.lt_succ_self _)).trans hcell
          clear hb2 hcell
          go_wp2_with (refine nw_store_row _ rfl 25 (.tmp 2) (.tmp 45) rfl w.heap.size 25 (cells4 2 0 (bs X) 0 0) zero4 rfl rfl hcell2 rfl (Tryz.size25 _ rfl) (one4 _ _ _ _ _) ?_)
          refine bodyPost_ret (v := .tuple #[vS (bs X), .int .i64 0]) (nw_results (show Tryz.f99.results = #[.cell 2 25, .tmp 3] from rfl) _ _ w.heap.size 25 (cells4 2 0 (bs X) 0 0) _ rfl (setRow_heap' _ _ _ _ _ hcell2) (Tryz.size25 _ rfl) Tryz.st25) rfl ⟨rfl, below_setRow HBW2.out (Nat.le_refl _) _⟩
  · rw [if_neg hodd] at hP
    rw [hP]
    have t0 : ((m : Int) % 2) = 1 := by omega
    clear hP hodd
    go_enter Tryz.func99, Tryz.ntmps99
    go_wp2_with fail
    refine bodyPost_ret (v := .tuple #[v0, .int .i64 2]) (by simp [results, Tryz.results21, go_sem, v0]) rfl ⟨rfl, ?_⟩
    exact (Below.refl _ w).alloc (Nat.le_refl _) _
end Go.Proofs.YtcogajgikmcfpaaGreatDoor
