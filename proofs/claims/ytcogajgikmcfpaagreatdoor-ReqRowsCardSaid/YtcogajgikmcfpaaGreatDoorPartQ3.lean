/-
  Texts of a proof over the translated program: proved evaluators and walks, part 3 of 23.
-/
import Derived.Test.YtcogajgikmcfpaaGreatDoorPartQ2
import Derived.WalkKit
set_option linter.unusedVariables false
set_option linter.unusedSimpArgs false
set_option linter.unusedSectionVars false
set_option linter.unnecessarySimpa false
section
namespace Go.AbsM
theorem foldl_push_bytes (ns : List Int) (b : List UInt8) : ns.foldl (fun (r : ByteArray) n => r.push (UInt8.ofNat n.toNat)) ⟨b.toArray⟩ = ⟨(b ++ ns.map fun n => UInt8.ofNat n.toNat).toArray⟩ := by
  induction ns generalizing b with
  | nil => simp
  | cons n r ih =>
    rw [List.foldl_cons]
    have : (⟨b.toArray⟩ : ByteArray).push (UInt8.ofNat n.toNat) = ⟨(b ++ [UInt8.ofNat n.toNat]).toArray⟩ := by
      apply ByteArray.ext; simp [ByteArray.push]
    rw [this, ih]
    simp
theorem bytesOfAVs_some {xs : List AV} {l : List UInt8} (h : bytesOfAVs xs = some l) : ∃ ns : List Int, xs = ns.map (AV.int .u8) ∧ l = ns.map fun n => UInt8.ofNat n.toNat := by
  induction xs generalizing l with
  | nil => simp [bytesOfAVs] at h; exact ⟨[], rfl, h⟩
  | cons x r ih =>
    unfold bytesOfAVs at h
    split at h
    · cases ‹_ = []›
    · rename_i n r' heq
      injection heq with e1 e2
      subst e1; subst e2
      split at h
      · rename_i l' hl
        simp only [Option.some.injEq] at h; subst h
        obtain ⟨ns, rfl, rfl⟩ := ih hl
        exact ⟨n :: ns, rfl, rfl⟩
      · cases h
    · cases h
section
variable {P : Program} {w : World} {g : Gh} {may : Nat → Prop} {s : St}
theorem us_of_ints {M : Nat → Nat → Prop} {e : TypeId} {ns : List Int} {us : List Value} (h : RepL P w M e (ns.map (AV.int .u8)) us) : us = ns.map (Value.int .u8) := by
  apply List.ext_getElem?
  intro i
  by_cases hi : i < ns.length
  · have hu : i < us.length := by rw [h.1]; simpa using hi
    have h1 := List.getElem?_eq_getElem hu
    have h2 := h.2.1 i (.int .u8 ns[i]) us[i] (by simp [hi]) h1
    generalize us[i] = u at h1 h2
    cases h2 with
    | x hp => rw [h1]; simp [hi]
  · have hu : us.length ≤ i := by rw [h.1]; simp; omega
    rw [List.getElem?_eq_none hu, List.getElem?_eq_none (by simp; omega)]
theorem flat_ints (k : IntKind) (ns : List Int) : flat (ns.map (Value.int k)) = ns.map (Value.int k) := by
  induction ns with
  | nil => rfl
  | cons n r ih => rw [List.map_cons, flat_cons, ih]; rfl
theorem elems_bytes_run {M : Nat → Nat → Prop} {e : TypeId} {xs : List AV} {v : Value} {l : List UInt8} (he1 : P.cellsOf e = 1 ∨ xs = []) (h : Elems P w M e xs v) (hl : bytesOfAVs xs = some l) :
    (Conv.bytesToString v).run P w = .ok (.string ⟨l.toArray⟩) w := by
  obtain ⟨A, c, us, rfl, h1, h2, hr, hA⟩ := h
  obtain ⟨ns, rfl, rfl⟩ := bytesOfAVs_some hl
  have hus := us_of_ints hr
  subst hus
  have hf := foldl_push_bytes ns []
  simp only [List.nil_append] at hf
  cases A with
  | none =>
    by_cases hne : ns = []
    · subst hne
      simp [Conv.bytesToString]
      rfl
    · obtain ⟨_, b, o, hx, _⟩ := hA (by simpa using hne)
      cases hx
  | some ad =>
    have hload : (loadCells ad (ns.map (AV.int .u8)).length).run P w = .ok (ns.map (Value.int .u8)).toArray w := by
      by_cases hne : ns = []
      · subst hne; simp [loadCells, loadCellsFrom]
      · obtain ⟨_, b, o, hx, hj⟩ := hA (by simpa using hne)
        injection hx with hx
        subst hx
        have := run_loadCells_list (P := P) w ⟨b, o, none⟩ (ns.map (Value.int .u8)) (fun j v hv => by
          rw [Addr.add_lit]
          exact hj j v (by rw [flat_ints]; exact hv))
        simpa using this
    rw [run_bytesToString w ad _ c ns hload]
    congr 2
theorem convA_sound (hi : SInv P w g may s.stores) {src dst : TypeId} {x r : AV} {v : Value} (hv : HRep P w g s.stores x v) (h : convA P s src dst x = some r) :
    ∃ u, (convert src dst v).run P w = .ok u w ∧ HRep P w g s.stores r u := by
  unfold convA at h
  split at h
  · rename_i k n
    obtain ⟨rfl, _⟩ := hv.inv_x
    split at h
    · rename_i d k' hs hd
      simp only [Option.some.injEq] at h; subst h
      exact ⟨_, by simp [convert, run_underlying hs, run_underlying hd, Conv.intToInt], HRep.mk_x rfl⟩
    · rename_i d k' hs hd
      simp only [Option.some.injEq] at h; subst h
      exact ⟨_, by simp [convert, run_underlying hs, run_underlying hd, Conv.intToFloat], HRep.mk_x rfl⟩
    · cases h
  · rename_i sk b
    obtain ⟨rfl, _⟩ := hv.inv_x
    split at h
    · rename_i d k' hs hd
      split at h
      · rename_i n hn
        split at h
        · rename_i hb
          simp only [Option.some.injEq] at h; subst h
          exact ⟨_, by simp [convert, run_underlying hs, run_underlying hd, Conv.floatToInt, hn, hb], HRep.mk_x rfl⟩
        · cases h
      · cases h
    · rename_i d k' hs hd
      split at h
      · rename_i hk
        subst hk
        simp only [Option.some.injEq] at h; subst h
        exact ⟨_, by simp [convert, run_underlying hs, run_underlying hd, Conv.floatToFloat], HRep.mk_x rfl⟩
      · cases h
    · cases h
  · rename_i l
    have e1 := hv.inv_str; subst e1
    split at h
    · rename_i d hs hd
      simp only [Option.some.injEq] at h; subst h
      refine ⟨_, ?_, HRep.mk_str _⟩
      cases d <;> simp [convert, run_underlying hs, run_underlying hd]
    · cases h
  · split at h
    · rename_i e hs hd
      split at h
      · rename_i xs he hx
        obtain ⟨l, hl, rfl⟩ := Option.map_eq_some_iff.1 h
        refine ⟨_, ?_, HRep.mk_str l⟩
        have hE : ∃ M, Elems P w M e xs v := by
          cases x with
          | nils =>
            simp only [St.src, Option.some.injEq] at hx; subst hx
            have e1 := hv.inv_nils; subst e1
            exact ⟨g.M, none, 0, [], rfl, by simp, by simp [maxLen], RepL.nil, fun h => absurd rfl h⟩
          | cap0 =>
            simp only [St.src, Option.some.injEq] at hx; subst hx
            obtain ⟨A, rfl⟩ := hv.inv_cap0
            exact ⟨g.M, A, 0, [], rfl, by simp, by simp [maxLen], RepL.nil, fun h => absurd rfl h⟩
          | sl e' ys =>
            simp only [St.src] at hx
            split at hx
            · rename_i he'
              subst he'
              simp only [Option.some.injEq] at hx; subst hx
              exact ⟨_, hv.elems_sl⟩
            · cases hx
          | arr i k e' lo n tot =>
            simp only [St.src] at hx
            split at hx
            · rename_i he'
              subst he'
              exact ⟨_, (hi.elems hv hx).2⟩
            · cases hx
          | str l => rename_i hno; exact absurd rfl (hno l)
          | _ => simp [St.src] at hx
        obtain ⟨M, hE⟩ := hE
        have he1 : P.cellsOf e = 1 ∨ xs = [] := by
          by_cases hne : xs = []
          · exact .inr hne
          · left
            obtain ⟨A, c, us, rfl, h1, h2, hr, hA⟩ := hE
            obtain ⟨ns, rfl, rfl⟩ := bytesOfAVs_some hl
            have hus := us_of_ints hr
            subst hus
            have : ns ≠ [] := by simpa using hne
            obtain ⟨n, ns', rfl⟩ := List.exists_cons_of_ne_nil this
            have := hr.2.2 (.int .u8 n) (by simp)
            simpa [Value.cells] using this.symm
        have hb := elems_bytes_run he1 hE hl
        obtain ⟨A, c, us, rfl, _⟩ := hE
        rw [run_convert_bytes_string w src dst e A _ c hs he hd]
        exact hb
      · cases h
    · cases h
theorem equalIn_nil_slice (d : Nat) {t e : TypeId} (hu : P.underlying t = some (.slice e)) (A : Option Addr) (n c : Nat) : (Op.equalIn (d + 1) t (.slice A n c) (.slice none 0 0)).run P w = .ok A.isNone w := by
  cases A <;> simp [Op.equalIn, run_underlying hu]
theorem equalIn_nil_ptr (d : Nat) {t e : TypeId} (hu : P.underlying t = some (.pointer e)) (A : Option Addr) : (Op.equalIn (d + 1) t (.pointer A) (.pointer none)).run P w = .ok A.isNone w := by
  cases A <;> simp [Op.equalIn, run_underlying hu]
theorem isNilT_slice {t e : TypeId} {x : AV} {v : Value} {b : Bool} (hu : P.underlying t = some (.slice e)) (hv : HRep P w g s.stores x v) (hi : SInv P w g may s.stores) (h : isNilT P s t x = some b) :
    ∃ A n c, v = .slice A n c ∧ A.isNone = b := by
  unfold isNilT at h
  rw [hu] at h
  simp only at h
  unfold isNilA at h
  split at h
  · simp only [Option.some.injEq] at h; subst h
    exact ⟨_, _, _, hv.inv_nils, rfl⟩
  · simp only [Option.some.injEq] at h; subst h
    obtain ⟨A, c, us, rfl, h1, h2, hpos, hr, hA⟩ := hv.inv_sl
    obtain ⟨b, o, rfl, _⟩ := hA (by simp)
    exact ⟨_, _, _, rfl, rfl⟩
  · rename_i i k e' lo n tot
    split at h
    · rename_i xs hx
      simp only [Option.some.injEq] at h; subst h
      obtain ⟨hxl, A, c, us, rfl, h1, h2, hr, hA⟩ := hi.elems hv hx
      obtain ⟨_, b, o, rfl, _⟩ := hA (by rintro rfl; simp at hxl)
      exact ⟨_, _, _, rfl, rfl⟩
    · cases h
  · cases h
theorem isNilT_ptr {t e : TypeId} {x : AV} {v : Value} {b : Bool} (hu : P.underlying t = some (.pointer e)) (hv : HRep P w g s.stores x v) (h : isNilT P s t x = some b) :
    ∃ A, v = .pointer A ∧ A.isNone = b := by
  unfold isNilT at h
  rw [hu] at h
  simp only at h
  split at h
  · simp only [Option.some.injEq] at h; subst h
    exact ⟨_, hv.inv_ref.2, rfl⟩
  · simp only [Option.some.injEq] at h; subst h
    obtain ⟨rfl, _⟩ := hv.inv_x
    exact ⟨_, rfl, rfl⟩
  · cases h
theorem eqGuard_plain {op : BinOp} {t : TypeId} {x y : Operand} {u v : Value} (h : ∀ a b, ¬ (u = .nilIface ∧ v = .nilIface) ∧ ¬ (u = .agg a ∧ v = .agg b)) : (eqGuard op t x y u v).run P w = .ok () w := by
  have h1 : ¬ (u = .nilIface ∧ v = .nilIface) := (h #[] #[]).1
  unfold eqGuard
  cases op <;> simp
  all_goals
    split
    · exact absurd ⟨rfl, rfl⟩ h1
    · rename_i a b; exact absurd ⟨rfl, rfl⟩ (h a b).2
    · simp
theorem binA_sound (hi : SInv P w g may s.stores) {op : BinOp} {t : TypeId} {x y r : AV} {ox oy : Operand} {u v : Value} (hx : HRep P w g s.stores x u) (hy : HRep P w g s.stores y v) (h : binA P s op t x y = some r) :
    ∃ z, (eqGuard op t ox oy u v).run P w = .ok () w ∧ (binOp op t u v).run P w = .ok z w ∧ HRep P w g s.stores r z := by
  unfold binA at h
  split at h
  ·
    have e1 := hy.inv_nils; subst e1
    split at h
    · rename_i e hu
      split at h
      · obtain ⟨b, hb, rfl⟩ := Option.map_eq_some_iff.1 h
        obtain ⟨A, n, c, rfl, rfl⟩ := isNilT_slice hu hx hi hb
        refine ⟨_, eqGuard_plain (fun a b => ⟨by simp, by simp⟩), ?_, HRep.mk_bool _⟩
        have := equalIn_nil_slice (P := P) (w := w) 9999 hu A n c
        simp [binOp, Op.equal, Op.maxDepth, this]
      · obtain ⟨b, hb, rfl⟩ := Option.map_eq_some_iff.1 h
        obtain ⟨A, n, c, rfl, rfl⟩ := isNilT_slice hu hx hi hb
        refine ⟨_, eqGuard_plain (fun a b => ⟨by simp, by simp⟩), ?_, HRep.mk_bool _⟩
        have := equalIn_nil_slice (P := P) (w := w) 9999 hu A n c
        simp [binOp, Op.equal, Op.maxDepth, this]
      · cases h
    · cases h
  · obtain ⟨rfl, _⟩ := hy.inv_x
    split at h
    · rename_i e hu
      split at h
      · obtain ⟨b, hb, rfl⟩ := Option.map_eq_some_iff.1 h
        obtain ⟨A, rfl, rfl⟩ := isNilT_ptr hu hx hb
        refine ⟨_, eqGuard_plain (fun a b => ⟨by simp, by simp⟩), ?_, HRep.mk_bool _⟩
        have := equalIn_nil_ptr (P := P) (w := w) 9999 hu A
        simp [binOp, Op.equal, Op.maxDepth, this]
      · obtain ⟨b, hb, rfl⟩ := Option.map_eq_some_iff.1 h
        obtain ⟨A, rfl, rfl⟩ := isNilT_ptr hu hx hb
        refine ⟨_, eqGuard_plain (fun a b => ⟨by simp, by simp⟩), ?_, HRep.mk_bool _⟩
        have := equalIn_nil_ptr (P := P) (w := w) 9999 hu A
        simp [binOp, Op.equal, Op.maxDepth, this]
      · cases h
    · cases h
  · obtain ⟨rfl, _⟩ := hy.inv_x
    split at h
    · obtain ⟨rfl, _⟩ := hx.inv_x
      have hgd : ∀ k a k' b op, (eqGuard op t ox oy (.int k a) (.int k' b)).run P w = .ok () w := fun _ _ _ _ _ => eqGuard_plain (fun a b => ⟨by simp, by simp⟩)
      split at h
      · obtain ⟨z, h1, h2⟩ := shiftA_sound (w := w) (g := g) (S := s.stores) (k' := ‹IntKind›) (P := P) t (.inl rfl) h
        exact ⟨z, hgd _ _ _ _ _, h1, h2⟩
      · obtain ⟨z, h1, h2⟩ := shiftA_sound (w := w) (g := g) (S := s.stores) (k' := ‹IntKind›) (P := P) t (.inr rfl) h
        exact ⟨z, hgd _ _ _ _ _, h1, h2⟩
      · rename_i hn1 hn2
        split at h
        · rename_i hk
          subst hk
          obtain ⟨z, h1, h2⟩ := intBin_sound (w := w) (g := g) (S := s.stores) (P := P) t ⟨fun e => hn1 e, fun e => hn2 e⟩ h
          exact ⟨z, hgd _ _ _ _ _, h1, h2⟩
        · cases h
    · cases h
  · obtain ⟨rfl, _⟩ := hy.inv_x
    split at h
    · obtain ⟨rfl, _⟩ := hx.inv_x
      split at h
      · rename_i hk
        subst hk
        obtain ⟨z, h1, h2⟩ := floatBin_sound (w := w) (g := g) (S := s.stores) (P := P) t h
        exact ⟨z, eqGuard_plain (fun a b => ⟨by simp, by simp⟩), h1, h2⟩
      · cases h
    · cases h
  · obtain ⟨rfl, _⟩ := hy.inv_x
    split at h
    · obtain ⟨rfl, _⟩ := hx.inv_x
      split at h
      · rename_i hk
        subst hk
        obtain ⟨z, h1, h2⟩ := complexBin_sound (w := w) (g := g) (S := s.stores) (P := P) t h
        exact ⟨z, eqGuard_plain (fun a b => ⟨by simp, by simp⟩), h1, h2⟩
      · cases h
    · cases h
  · have e1 := hy.inv_str; subst e1
    split at h
    · have e2 := hx.inv_str; subst e2
      obtain ⟨z, h1, h2⟩ := strBin_sound (w := w) (g := g) (S := s.stores) (P := P) t h
      exact ⟨z, eqGuard_plain (fun a b => ⟨by simp, by simp⟩), h1, h2⟩
    · cases h
  · obtain ⟨rfl, _⟩ := hy.inv_x
    split at h
    · obtain ⟨rfl, _⟩ := hx.inv_x
      split at h
      · rename_i hu
        have := fun a b => run_equalIn_bool (P := P) w 9999 t a b hu
        split at h
        · simp only [Option.some.injEq] at h; subst h
          refine ⟨_, eqGuard_plain (fun a b => ⟨by simp, by simp⟩), ?_, HRep.mk_bool _⟩
          simp [binOp, Op.equal, Op.maxDepth, this]
        · simp only [Option.some.injEq] at h; subst h
          refine ⟨_, eqGuard_plain (fun a b => ⟨by simp, by simp⟩), ?_, HRep.mk_bool _⟩
          simp [binOp, Op.equal, Op.maxDepth, this]
        · cases h
      · cases h
    · cases h
  · split at h
    · split at h
      · cases h
      · rename_i hg0
        obtain ⟨us, rfl, hus⟩ := hx.inv_agg
        obtain ⟨vs, rfl, hvs⟩ := hy.inv_agg
        have hgd := run_eqGuard_agg (P := P) w op t ox oy us.toArray vs.toArray (by simpa using hg0)
        split at h
        · obtain ⟨b, hb, rfl⟩ := Option.map_eq_some_iff.1 h
          have := eqIn_sound 10000 t _ _ _ _ b hx hy hb
          exact ⟨_, hgd, by rw [run_eql_struct, this]; rfl, HRep.mk_bool _⟩
        · obtain ⟨b, hb, rfl⟩ := Option.map_eq_some_iff.1 h
          have := eqIn_sound 10000 t _ _ _ _ b hx hy hb
          exact ⟨_, hgd, by rw [run_neq_struct, this]; rfl, HRep.mk_bool _⟩
        · cases h
    · cases h
  · cases h
end
end Go.AbsM
end
