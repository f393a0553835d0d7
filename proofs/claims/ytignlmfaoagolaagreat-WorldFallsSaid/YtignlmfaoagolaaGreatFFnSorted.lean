/-
  Texts of a proof over the translated program: FnSorted.
-/
import Derived.Test.YtignlmfaoagolaaGreatLibF5
set_option linter.unusedVariables false
set_option linter.unusedSimpArgs false
set_option linter.unusedSectionVars false
namespace Go.FM
noncomputable section
open Go.Maps Go.RowKit
def SortedSpec (P : Program) (f fI T K : Nat) : Prop := ∀ (w : World) (kb b nn : Nat) (D0 : DataW Unit), w.cell? ⟨kb, 0, none⟩ = some (.map (some b)) → kb < w.heap.size → w.ownsMap P K anyR b nn D0 → Maps.size D0 ≤ maxLen → Maps.size D0 * 8 ≤ 140737488355328 →
  Calls P f #[.func (.func fI) #[] #[.pointer (some ⟨kb, 0, none⟩)]] w fun e w' => ∃ (v : Value) (ss : List Int), e = .returned v ∧ ss.Perm (intKeys D0) ∧
    w'.ownsRow w.heap.size T 1 v ss.length ((ss.mergeSort (fun x y => decide (x ≤ y))).map (Value.int .i64)) ∧ (v = .slice none 0 0 ↔ ss = []) ∧ Below w.heap.size w w'
def sortedH (fI D : Nat) : Hook := fun args h c => match args with
  | [x] => match x with
    | .fn fi [(k, o)] => if Nat.beq fi fI && Nat.beq o 0 then match (HT.get D k h).body with
      | .cells cs => match lget 0 cs with
        | .mp m => match (HT.get D m h).body with
          | .map es cl => if okM es cl && Nat.blt 0 cs.length then match es with
              | [] => .ok .nils h c
              | e :: r => newO D 0 (.cells ((sortI ((e :: r).map ME.key)).map (HV.int .i64))) (.slc c 0 (e :: r).length 1 false) h c
            else .x 90
          | _ => .x 91
        | _ => .x 92
      | _ => .x 93 else .x 94
    | _ => .x 94
  | _ => .x 95
section
variable [Env]
variable {Pr : Program} {D : Nat} {g : Gm} {c : Nat} {w w' : World}
theorem sortedH_ok {f fI T K : Nat} (hb : Body Pr f) (hK : Pr.underlying K = some (.int .i64)) (hs : SortedSpec Pr f fI T K) : HookOk Pr D f (sortedH fI D) := by
  intro args h c v h' c' he hv
  refine ⟨hb, ?_⟩
  unfold sortedH at he
  split at he
  · split at he
    · rename_i fi k o
      split at he
      rotate_left
      · cases he
      rename_i hfo
      simp only [Bool.and_eq_true] at hfo
      have := Nat.eq_of_beq_eq_true hfo.1; subst this
      have := Nat.eq_of_beq_eq_true hfo.2; subst this
      split at he
      · rename_i cs hcs
        split at he
        · rename_i m hm
          split at he
          · rename_i es cl hes
            split at he
            · rename_i hok
              simp only [Bool.and_eq_true] at hok
              obtain ⟨hok, hlt⟩ := hok
              have hlt : 0 < cs.length := Nat.le_of_ble_eq_true hlt
              intro w g vs hi ha
              obtain ⟨x0, rfl⟩ : ∃ x0, vs = [x0] := List.length_eq_one_iff.1 ha.1
              obtain ⟨hk, rfl⟩ := ha.2 0 _ _ rfl rfl
              have hk := hk (k, 0) (by simp)
              have hz := (hi.body hk.1 hcs (by simp)).zero
              obtain ⟨us, q1, q2, q3, q4⟩ := (hi.body hk.1 hcs (by simp)).cells
              have hul : 0 < us.length := by rw [q2.1]; exact hlt
              have hu : us[0]? = some us[0] := List.getElem?_eq_getElem hul
              have hr := (q2.2 0 _ _ (lget_eq _ _ hlt) hu).1
              have hm' : lget 0 cs = .mp m := hm
              rw [hm'] at hr
              obtain ⟨hmn, hmv⟩ := hr
              obtain ⟨ms, cl0, hms, hmo⟩ := map_at hi hmn.1 hes
              obtain ⟨es0, hmr, hsim, hwf, hin, hle0, hnd, hin'⟩ := okM_at hmo hok
              have hown := owns_of (P := Pr) hK hms hmr hwf hin hle0
              have hcell : w.cell? ⟨(g k).b, 0, none⟩ = some (.map (some (g m).b)) := by
                have := q4 0 _ hu
                rw [hmv, hz] at this
                exact this
              have hlen : es.length ≤ 100000 := by have := hsim.length_eq; simp at this; omega
              have hlen0 : es0.length = es.length := by have := hsim.length_eq; simpa using this
              have hc := hs w (g k).b (g m).b es0.length (dataOf es0) hcell (hi.body hk.1 hcs (by simp)).lt hown (by rw [dataOf_size]; exact Nat.le_trans hle0 (by decide)) (by rw [dataOf_size]; omega)
              have hargs : ([Value.func (.func fi) #[] ([((k : Nat), (0 : Nat))].map fun p => Value.pointer (some (addrOf g p.1 p.2))).toArray] : List Value).toArray = #[.func (.func fi) #[] #[.pointer (some ⟨(g k).b, 0, none⟩)]] := by
                simp [addrOf, hz]
              rw [hargs]
              refine hc.mono fun e w' ⟨v0, ss, he0, hp, hrow, hnil, hbel⟩ => ?_
              have hx := Below.ext hbel
              have hpk := (hp.trans (dataOf_keys es0)).trans hsim.keys
              have hsl : ss.length = es.length := by rw [hpk.length_eq]; simp
              cases es with
              | nil =>
                cases he
                have hss : ss = [] := List.eq_nil_of_length_eq_zero (by simpa using hsl)
                exact ⟨v0, g, he0, HOk.ext hi hx, Post.ext hi.inv hx, hnil.2 hss⟩
              | cons e0 r0 =>
                simp only at he
                rcases hrow.2 with ⟨_, h0⟩ | ⟨gb, cap, cur, hv0, hbase, hgb, r1, r2, r3, r4⟩
                · rw [hsl] at h0; simp at h0
                · have hso := sortI_eq hpk
                  rw [hso] at r4
                  have hcur : cur.toList.length = cap := by simpa using r3
                  have hn : ss.length = (e0 :: r0).length := hsl
                  have hb0 : BOk (g.new c ⟨gb, 0, (e0 :: r0).length, cap⟩) (c + 1) ⟨gb, 0, (e0 :: r0).length, cap⟩ (.cells ((sortI ((e0 :: r0).map ME.key)).map (HV.int .i64))) w' := by
                    refine .inl ⟨cur.toList, T, by simpa using hgb, hcur, ⟨rfl, by rw [← hn]; simpa using r1⟩, ?_⟩
                    have e1 : (At.mk gb 0 (e0 :: r0).length cap).row cur.toList = (sortI ((e0 :: r0).map ME.key)).map (Value.int .i64) := by
                      simp only [At.row, List.drop_zero]
                      rw [← r4, hn, Nat.mul_one]
                    rw [e1]
                    exact ints_rep
                  obtain ⟨z, w2, g2, s1, s2, s3, s4⟩ := new_eff (r := .ok v0 w') (z := v0) hi hx hbase hb0 he rfl (by
                    rw [hv0, hn]
                    refine ⟨nm_new g c _ (by rw [← hn]; simpa using r1), _, cap, rfl, by rw [← hn]; exact r1, r2, by decide, ?_, ?_, fun _ => ?_, (fun hc => by cases hc), fun _ => ?_⟩
                    · rw [gnew_self]; simp
                    · rw [gnew_self]; simp
                    · rw [gnew_self]; show (e0 :: r0).length ≤ 0 + cap * 1; rw [← hn]; omega
                    · simp [addrOf, gnew_self])
                  simp only [Result.ok.injEq] at s1
                  obtain ⟨rfl, rfl⟩ := s1
                  exact ⟨v0, g2, he0, s2, s3, s4⟩
            · cases he
          · cases he
        · cases he
      · cases he
    · cases he
  · cases he
end
end
end Go.FM
