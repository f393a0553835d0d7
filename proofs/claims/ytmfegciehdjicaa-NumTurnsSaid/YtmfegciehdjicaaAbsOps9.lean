/-
  The abstract machine: bytes out of strings; one operation, calls apart.
-/
import Derived.Test.YtmfegciehdjicaaAbsOps8
import Derived.Laws.IdiomStrings
set_option linter.unusedVariables false
set_option linter.unusedSimpArgs false
namespace Go.AbsM

section
variable {P : Program} {w w' : World} {g : Gh} {may : Nat → Prop} {s : St} {a : Act}

theorem SInv.mark {S : List Store} (hi : SInv P w g may S) {B0 : Nat} (hsize : w'.heap.size = w.heap.size) (hsame : ∀ ad, w'.cell? ad = w.cell? ad) (hheap : ∀ b, b ≠ B0 → w'.heap[b]? = w.heap[b]?) (hno : ∀ i k o, getOb S i k = some o → o.loose = true → g.B i k ≠ B0) : SInv P w' g may S := by
  have hkp : Kp 0 S g S g := Kp.refl _ _ _
  refine ⟨fun i k cs h => ?_, fun i k e xs h => ?_, fun i k e xs h => ?_, hi.inj, fun b o h => by rw [hsize]; exact hi.mlt b o h⟩
  · obtain ⟨h1, h2, vs, t, h3, h4, h5⟩ := hi.box i k cs h
    exact ⟨h1, h2, vs, t, by rw [hheap _ (hno i k _ h rfl)]; exact h3, h4, fun j c u hc hu => ⟨CRep.keep (g := g) (g' := g) (S := S) (fun _ _ h => h) (fun b o _ => hsame _) hkp (AV.from_zero _) (h5 j c u hc hu).1, (h5 j c u hc hu).2⟩⟩
  · obtain ⟨h1, h2, he, cur, us, cap, h3, h4, h5, h6, h7, h8, h9⟩ := hi.arr i k e xs h
    exact ⟨h1, h2, he, cur, us, cap, by rw [hheap _ (hno i k _ h rfl)]; exact h3, h4, h5, h6, h7, h8.mono (fun _ _ h => h) (fun b o _ => hsame _), h9⟩
  · obtain ⟨he, us, hr, hc⟩ := hi.fz i k e xs h
    exact ⟨he, us, hr.mono (fun _ _ h => h) (fun b o _ => hsame _), fun m cv hm => ⟨(hsame _).trans (hc m cv hm).1, (hc m cv hm).2⟩⟩

theorem freeze_cell (w : World) (ad : Addr) (n : Nat) (b : Addr) : (w.freeze ad n).cell? b = w.cell? b := by
  unfold World.freeze
  split
  · rfl
  · unfold World.cell?
    simp only [Array.getElem?_modify]
    by_cases h : ad.block = b.block
    · rw [if_pos h]
      cases hb : w.heap[b.block]? with
      | none => rfl
      | some o => cases o <;> rfl
    · rw [if_neg h]
theorem freeze_heap (w : World) (ad : Addr) (n : Nat) (b : Nat) (h : b ≠ ad.block) : (w.freeze ad n).heap[b]? = w.heap[b]? := by
  unfold World.freeze
  split
  · rfl
  · simp only [Array.getElem?_modify]
    rw [if_neg (Ne.symm h)]
theorem freeze_size (w : World) (ad : Addr) (n : Nat) : (w.freeze ad n).heap.size = w.heap.size := by
  unfold World.freeze; split <;> simp

theorem markStringish_run (ad : Addr) : ∃ w', (markStringish ad).run P w = .ok () w' ∧ w'.os = w.os ∧ w'.tape = w.tape ∧ w'.output = w.output ∧ w'.heap.size = w.heap.size ∧ (∀ b, w'.cell? b = w.cell? b) ∧ ∀ b, b ≠ ad.block → w'.heap[b]? = w.heap[b]? := by
  unfold markStringish
  cases h : w.shape? ad.block with
  | none => exact ⟨w, by simp [h], rfl, rfl, rfl, rfl, fun _ => rfl, fun _ _ => rfl⟩
  | some x =>
    obtain ⟨e, n⟩ := x
    refine ⟨w.freeze ⟨ad.block, n, none⟩ 1, by simp [h], ?_, ?_, ?_, freeze_size _ _ _, freeze_cell _ _ _, fun b hb => freeze_heap _ _ _ b hb⟩ <;> (unfold World.freeze; split <;> rfl)

theorem convertA_sound (hs : Sim P may s a w g) (hm : ∀ b, w.heap.size ≤ b → may b) {s' : St} {d : Option Nat} {src dst : TypeId} {x : AV} {v : Value} (hv : HRep P w g s.stores x v) (h : convertA P s d src dst x = some s') :
    ∃ z w', (convert src dst v).run P w = .ok z w' ∧ Leaves P may s w g s' (a.put d z) w' := by
  unfold convertA at h
  split at h
  · rename_i r hr
    simp only [Option.some.injEq] at h; subst h
    obtain ⟨u, hrun, hu⟩ := convA_sound hs.inv hv hr
    exact ⟨u, w, hrun, Leaves.same (hs.put hu d) (put_stores _ _ _)⟩
  · split at h
    · rename_i e hus hud
      split at h
      · rename_i l hue hcn
        split at h
        · rename_i hc
          obtain ⟨hlen, hce⟩ := hc
          simp only [Option.some.injEq] at h; subst h
          have e1 := hv.inv_str; subst e1
          have hsz : (⟨l.toArray⟩ : ByteArray).size = l.length := by simp [ByteArray.size]
          have hrun := run_bytes_of_string (P := P) w src dst e ⟨l.toArray⟩ hus hud hue
          rw [hsz] at hrun
          refine ⟨_, _, hrun, ?_⟩
          have hge := grownCap_ge w l.length 0 e
          have hgm := grownCap_le_maxLen w l.length 0 e (by simp only [maxLen]; omega)
          have hx : Ext w (w.drew.alloc (.cells (bytesRow ⟨l.toArray⟩ (grownCap w l.length 0 e)) e ((bytesRow ⟨l.toArray⟩ (grownCap w l.length 0 e)).size, (bytesRow ⟨l.toArray⟩ (grownCap w l.length 0 e)).size + 1))) := (Ext.drew w).trans (Ext.alloc w.drew _)
          refine Leaves.put_rep hs hm hx (M' := fun b o => g.M b o ∨ b = w.heap.size) (fun _ _ h => .inl h) (fun b o h1 h2 => ?_) ?_ d
          · have hb : b = w.heap.size := h1.resolve_left h2
            subst hb
            exact ⟨Nat.le_refl _, by simp⟩
          · have hl : (avsOfBytes l).length = l.length := by simp [avsOfBytes]
            rw [← hl]
            refine .sl (us := l.map fun b => .int .u8 b.toNat) rfl (by simp [avsOfBytes]) (by rw [hl]; exact hge) (by rw [hl]; exact hgm) (by omega) (fun i y u hy hu => ?_) (fun u hu => ?_) fun hne => ?_
            · rw [avs_getElem?] at hy
              simp only [List.getElem?_map] at hu
              cases hli : l[i]? with
              | none => simp [hli] at hy
              | some b => simp [hli] at hy hu; subst hy; subst hu; exact .x rfl
            · obtain ⟨b, _, rfl⟩ := List.mem_map.1 hu
              rw [hce]; rfl
            · refine ⟨w.heap.size, 0, rfl, fun j cv hj => ⟨?_, .inr rfl⟩⟩
              have hf : flat (l.map fun b => Value.int .u8 b.toNat) = l.map fun b => Value.int .u8 b.toNat := by
                generalize l = m
                induction m with
                | nil => rfl
                | cons b r ih => rw [List.map_cons, flat_cons, ih]; rfl
              rw [hf] at hj
              have hjl : j < l.length := by
                have := (List.getElem?_eq_some_iff.1 hj).1
                simpa using this
              have hnew := heap_alloc_new w.drew (.cells (bytesRow ⟨l.toArray⟩ (grownCap w (avsOfBytes l).length 0 e)) e ((bytesRow ⟨l.toArray⟩ (grownCap w (avsOfBytes l).length 0 e)).size, (bytesRow ⟨l.toArray⟩ (grownCap w (avsOfBytes l).length 0 e)).size + 1))
              rw [Nat.zero_add]
              have hcr := cell_of_row _ w.heap.size j _ e _ hnew
              rw [hcr]
              simp only [bytesRow, List.map_toArray]
              rw [Array.getElem?_append_left (by simpa using hjl)]
              simpa using hj
        · cases h
      · cases h
    · rename_i e0 e hus hud
      split at h
      · rename_i hsd
        subst hsd
        split at h
        · rename_i i k e' lo n tot hue hcn
          split at h
          · rename_i e2 ys xs hg hx
            simp only [Option.some.injEq] at h; subst h
            rw [hus] at hud
            cases hud
            obtain ⟨g1, hset, hrep⟩ := setFz_sound hs hv hx
            obtain ⟨hxl, A, c, us, rfl, h1, h2, hr, hA⟩ := hs.inv.elems hv hx
            obtain ⟨_, b, o, rfl, _⟩ := hA (by rintro rfl; simp at hxl)
            -- which block that is
            obtain ⟨fz, zs, hg', ht, hq, _⟩ := hv.inv_arr
            rw [hg] at hg'
            simp only [Option.some.injEq, Ob.arr.injEq] at hg'
            obtain ⟨rfl, rfl, rfl⟩ := hg'
            have hl : ys.length = tot := by
              simp only [St.elems, hg] at hx
              split at hx
              · assumption
              · cases hx
            obtain ⟨hln, A', c', heq, hnc, hcm, hA', hC⟩ := hq hl
            injection heq with q1 q2 q3
            rw [hA' (.inr (by omega))] at q1
            injection q1 with q1
            injection q1 with q1 q4 q5
            subst q1
            obtain ⟨w', hmk, m1, m2, m3, m4, m5, m6⟩ := markStringish_run (P := P) (w := w) ⟨g.B i k, o, none⟩
            refine ⟨.slice (some ⟨g.B i k, o, none⟩) xs.length c, w', by simp [convert, run_underlying hus, run_underlying hue, hmk], ?_⟩
            have hst : (s.setFz i k).stores = setOb s.stores i k (.arr true e2 ys) := by simp [St.setFz, hg]
            have hB1 : g1.B i k = g.B i k := by
              obtain ⟨fz', xs', hg3, hl3, hq3⟩ := hset.2.2.1.arr i k _ _ _ (Nat.zero_le _) hg
              rw [hst, getOb_set] at hg3
              simp [hg] at hg3
              obtain ⟨rfl, rfl⟩ := hg3
              exact (hq3 rfl).1
            have hno : ∀ i' k' o', getOb (s.setFz i k).stores i' k' = some o' → o'.loose = true → g1.B i' k' ≠ g.B i k := by
              intro i' k' o' hh hlo heq2
              have hlt := hs.inv.lt hg rfl
              -- the object was there already
              rw [hst, getOb_set] at hh
              by_cases hn : i' = i ∧ k' = k
              · rw [if_pos hn, hg] at hh
                simp at hh; subst hh
                simp [Ob.loose] at hlo
              · rw [if_neg hn] at hh
                have hB2 : g1.B i' k' = g.B i' k' := by
                  cases o' with
                  | box cs => exact (hset.2.2.1.box i' k' cs (Nat.zero_le _) hh).2
                  | arr fz3 e3 xs3 =>
                    obtain ⟨fz', xs', hg3, hl3, hq3⟩ := hset.2.2.1.arr i' k' _ _ _ (Nat.zero_le _) hh
                    rw [hst, getOb_set, if_neg hn, hh] at hg3
                    simp only [Option.some.injEq, Ob.arr.injEq] at hg3
                    obtain ⟨_, _, rfl⟩ := hg3
                    exact (hq3 rfl).1
                rw [hB2] at heq2
                exact hn (hs.inv.inj i' k' o' i k _ hh hg hlo rfl heq2)
            have hinv := hset.1.inv.mark (w' := w') (B0 := g.B i k) m4 m5 m6 hno
            have hsim : Sim P may (s.setFz i k) a w' g1 := by
              have := hset.1.keep (w' := w') (g' := g1) (S' := (s.setFz i k).stores) (fun _ _ h => h) (fun b o _ => m5 _) (Kp.refl _ _ _) hinv hset.1.ne
              exact this
            have hmay := (hs.inv.lt hg rfl).2.1
            refine ⟨g1, hsim.put (HRep.of_rep (hrep.mono (fun _ _ h => h) (fun b o _ => m5 _))) d, hset.2.1.trans ⟨m1, m2, m3, by omega, fun b hb => m6 b fun e => hb (e ▸ hmay), fun _ _ h => h, fun b o _ => m5 _, fun _ _ _ h => h⟩, ?_⟩
            rw [put_stores]
            exact hset.2.2.1.mono (by omega)
          · cases h
        · cases h
      · cases h
    · cases h
end
end Go.AbsM
