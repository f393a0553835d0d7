/-
  Texts of a proof over the translated program: FnDel.
-/
import Derived.Test.YtignlmfaoagolaaGreatLibD5
import Derived.Lib.SlMapFilter
import Derived.Lib.SlKeysI
import Derived.Laws.AppendOwn
set_option linter.unusedVariables false
set_option linter.unusedSimpArgs false
set_option linter.unusedSectionVars false
namespace Go.FM
noncomputable section
open Go.Maps Go.RowKit
open Go.WideElems (rd rg rg_of Fit)
def ownR (w : World) (off : Nat) : Value → Option (DataW (Value × Int) × List MemPlace) := fun v => match v with
  | .pointer (some ⟨b, o, none⟩) => if b < w.heap.size then match w.cell? ⟨b, o + off, none⟩ with
    | some (.int .i64 p) => some (.held (v, p), [])
    | _ => none else none
  | _ => none
theorem ownR_some {w : World} {off : Nat} {v : Value} {y : DataW (Value × Int) × List MemPlace} (h : ownR w off v = some y) : ∃ b o p, v = .pointer (some ⟨b, o, none⟩) ∧ b < w.heap.size ∧ w.cell? ⟨b, o + off, none⟩ = some (.int .i64 p) ∧ y = (.held (v, p), []) := by
  unfold ownR at h
  split at h
  · split at h
    · rename_i hb
      split at h
      · rename_i p hp
        simp only [Option.some.injEq] at h
        exact ⟨_, _, p, rfl, hb, hp, h.symm⟩
      · cases h
    · cases h
  · cases h
theorem ownR_pin {w : World} {off : Nat} {v : Value} {p : Int} (h : pinR w off v = some (.lit (.int .i64 p), [])) : ownR w off v = some (.held (v, p), []) := by
  obtain ⟨b, o, q, rfl, hb, hc, he⟩ := pinR_some h
  simp only [Prod.mk.injEq, DataW.lit.injEq, Lit.int.injEq] at he
  have : p = q := he.1.2
  subst this
  simp only [ownR, hb, if_true, hc]
def ownIs (id : Int) (_ : Lit) : DataW (Value × Int) → Bool
  | .held q => decide (q.2 = id)
  | _ => false
def DelSpec (P : Program) (f fC off K : Nat) : Prop := ∀ (w : World) (b nn kb ko : Nat) (id : Int) (D0 : DataW (Value × Int)), w.ownsMap P K (ownR w off) b nn D0 → w.cell? ⟨kb, ko, none⟩ = some (.int .i64 id) →
  Calls P f #[.map (some b), .func (.func fC) #[] #[.pointer (some ⟨kb, ko, none⟩)]] w fun e w' => e = .returned (.tuple #[]) ∧ w'.ownsMap P K (ownR w off) b nn (Lib.deleteFuncD (ownIs id) D0) ∧ w.grownBy w' (some b)
theorem cell_ne {H : Type} {w : World} {P : Program} {K : TypeId} {R : Value → Option (DataW H × List MemPlace)} {b n pb po : Nat} {D0 : DataW H} {v : Value} (h : w.ownsMap P K R b n D0) (hc : w.cell? ⟨pb, po, none⟩ = some v) : pb ≠ b := by
  rintro rfl
  obtain ⟨es, cl, hb, _⟩ := h
  simp [World.cell?, hb] at hc
theorem perm_lift {α β : Type} {f : α → β} {A C : List β} (h : A.Perm C) : ∀ {B : List α}, B.map f = C → ∃ B' : List α, B'.Perm B ∧ B'.map f = A := by
  induction h with
  | nil => intro B hB; exact ⟨B, .refl _, hB⟩
  | cons x _ ih =>
    intro B hB
    cases B with
    | nil => cases hB
    | cons b r =>
      simp only [List.map_cons, List.cons.injEq] at hB
      obtain ⟨B', h1, h2⟩ := ih hB.2
      exact ⟨b :: B', h1.cons _, by simp [h2, hB.1]⟩
  | swap x y l =>
    intro B hB
    match B, hB with
    | [], hB => cases hB
    | [_], hB => simp at hB
    | b1 :: b2 :: r, hB =>
      simp only [List.map_cons, List.cons.injEq] at hB
      exact ⟨b2 :: b1 :: r, .swap _ _ _, by simp [hB.1, hB.2.1, hB.2.2]⟩
  | trans _ _ ih1 ih2 =>
    intro B hB
    obtain ⟨B1, h1, h2⟩ := ih2 hB
    obtain ⟨B2, h3, h4⟩ := ih1 h2
    exact ⟨B2, h3.trans h1, h4⟩
def pv (D off : Nat) (h : HT) (v : HV) : Int := (pinOf D off h v).getD 0
def keepM (D off : Nat) (h : HT) (id : Int) (es : List ME) : List ME := es.filter fun e => !(keyEq (pv D off h e.val) id)
def delH (fC off D : Nat) : Hook := fun args h c => match args with
  | [x, y] => match x with
    | .mp m => match y with
      | .fn fi [(k, o)] => if Nat.beq fi fC then match (HT.get D k h).body with
          | .cells cs => if Nat.blt o cs.length then match lget o cs with
              | .int ik id => if ikEq ik .i64 then match HT.get D m h with
                  | .own 0 (.map es cl) => if okM es cl then match pinsM D off h es with
                      | some _ => setM D m (.tup []) (keepM D off h id es) uM h c
                      | none => .x 96
                    else .x 90
                  | _ => .x 91
                else .x 92
              | _ => .x 92
            else .x 93
          | _ => .x 93
        else .x 94
      | _ => .x 94
    | _ => .x 95
  | _ => .x 95
section
variable [Env]
variable {Pr : Program} {D K : Nat} {g : Gm} {c : Nat} {w : World} {h : HT}
theorem pins_all {off : Nat} : ∀ {es : List ME} {l : List (Int × Int)}, pinsM D off h es = some l → ∀ e ∈ es, ∃ p, pinOf D off h e.val = some p
  | [], _, _, e, he => by simp at he
  | e :: r, l, hl, e', he => by
    unfold pinsM at hl
    split at hl
    · rename_i p hp
      split at hl
      · rename_i l' hl'
        rcases List.mem_cons.1 he with rfl | he
        · exact ⟨p, hp⟩
        · exact pins_all hl' e' he
      · cases hl
    · cases hl
def encO (D off : Nat) (h : HT) (z : ME × MapEntry) : Lit × DataW (Value × Int) := (.int .i64 z.1.key, .held (z.2.val, pv D off h z.1.val))
theorem zip_read (hi : HOk D g h c w) (hK : Pr.underlying K = some (.int .i64)) {off : Nat} : ∀ {es : List ME} {ms : List MapEntry}, MReps g c es ms → (∀ e ∈ es, inI e.key = true) → (∀ e ∈ es, ∃ p, pinOf D off h e.val = some p) →
    ms.map (rg Pr K (ownR w off)) = (es.zip ms).map (encO D off h) ∧ (es.zip ms).map Prod.fst = es ∧ (∀ x ∈ ms, ∃ y, rd Pr K (ownR w off) x = some y) ∧ ∀ z ∈ es.zip ms, VRep g c z.1.val z.2.val
  | [], [], _, _, _ => ⟨rfl, rfl, fun x hx => by simp at hx, fun z hz => by simp at hz⟩
  | [], _ :: _, h, _, _ => h.elim
  | _ :: _, [], h, _, _ => h.elim
  | e :: r, m :: s, hm, ha, hp => by
    obtain ⟨q1, q2, q3, q4⟩ := zip_read hi hK hm.2 (fun e he => ha e (by simp [he])) (fun e he => hp e (by simp [he]))
    obtain ⟨p, hp0⟩ := hp e (by simp)
    have hrd : rd Pr K (ownR w off) m = some (encO D off h (e, m)) := by
      simp only [rd, hm.1.1, keys_read hK (ha e (by simp)), ownR_pin (pinOf_ok hi hm.1.2.1 hp0), encO, pv, hp0]; rfl
    refine ⟨by simp only [List.map_cons, List.zip_cons_cons, q1]; congr 1; exact rg_of hrd, by simp [q2], fun x hx => ?_, fun z hz => ?_⟩
    · rcases List.mem_cons.1 hx with rfl | hx
      · exact ⟨_, hrd⟩
      · exact q3 x hx
    · rw [List.zip_cons_cons] at hz
      rcases List.mem_cons.1 hz with rfl | hz
      · exact hm.1.2.1
      · exact q4 z hz
def remake (B : List (ME × MapEntry)) (xs : List MapEntry) : List ME := List.zipWith (fun z x => ⟨z.1.key, z.1.val, x.born⟩) B xs
theorem remake_ok (hK : Pr.underlying K = some (.int .i64)) {off : Nat} : ∀ {B : List (ME × MapEntry)} {xs : List MapEntry}, B.map (encO D off h) = xs.map (rg Pr K (ownR w off)) → (∀ x ∈ xs, ∃ y, rd Pr K (ownR w off) x = some y) → (∀ z ∈ B, VRep g c z.1.val z.2.val) →
    MReps g c (remake B xs) xs ∧ (remake B xs).map kvM = B.map (fun z => kvM z.1) ∧ (remake B xs).map ME.born = xs.map (·.born)
  | [], [], _, _, _ => ⟨trivial, rfl, rfl⟩
  | [], _ :: _, h, _, _ => by simp at h
  | _ :: _, [], h, _, _ => by simp at h
  | z :: r, x :: s, he, hr, hv => by
    simp only [List.map_cons, List.cons.injEq] at he
    obtain ⟨q1, q2, q3⟩ := remake_ok hK he.2 (fun x hx => hr x (by simp [hx])) (fun z hz => hv z (by simp [hz]))
    obtain ⟨y, hy⟩ := hr x (by simp)
    have hy2 : y = encO D off h z := by rw [he.1, rg_of hy]
    subst hy2
    simp only [rd, Option.bind_eq_some_iff, Option.map_eq_some_iff] at hy
    obtain ⟨kl, hk1, d, hd, hkd⟩ := hy
    obtain ⟨b, o, p, hpv, _, _, hd2⟩ := ownR_some hd
    obtain ⟨n, hn1, hn2, _⟩ := Maps.keyOf_i64 hK hk1
    subst hd2
    simp only [encO, Prod.mk.injEq, DataW.held.injEq] at hkd
    obtain ⟨h1, h2, h3⟩ := hkd
    have hkey : x.key = .int .i64 z.1.key := by
      rw [hn2] at h1
      simp only [Lit.int.injEq, true_and] at h1
      rw [hn1, ← h1]
    have e1 : remake (z :: r) (x :: s) = ⟨z.1.key, z.1.val, x.born⟩ :: remake r s := rfl
    rw [e1]
    refine ⟨⟨⟨hkey, ?_, rfl⟩, q1⟩, by simp [q2, kvM], by simp [q3]⟩
    show VRep g c z.1.val x.val
    rw [h2]; exact hv z (by simp)
theorem delH_ok {f fC off : Nat} (hb : Body Pr f) (hK : Pr.underlying K = some (.int .i64)) (hs : DelSpec Pr f fC off K) : HookOk Pr D f (delH fC off D) := by
  intro args h c v h' c' he hv
  refine ⟨hb, ?_⟩
  unfold delH at he
  split at he <;> try (cases he; done)
  split at he <;> try (cases he; done)
  rename_i m
  split at he <;> try (cases he; done)
  rename_i fi k o
  split at he <;> try (cases he; done)
  rename_i hfi
  have := Nat.eq_of_beq_eq_true hfi; subst this
  split at he <;> try (cases he; done)
  rename_i cs hcs
  split at he <;> try (cases he; done)
  rename_i hlt
  have hlt : o < cs.length := Nat.le_of_ble_eq_true hlt
  split at he <;> try (cases he; done)
  rename_i ik id hid
  split at he <;> try (cases he; done)
  rename_i hik
  have := ikEq_eq hik; subst this
  split at he <;> try (cases he; done)
  rename_i es cl ho
  split at he <;> try (cases he; done)
  rename_i hok
  split at he <;> try (cases he; done)
  rename_i l hl
  intro w g vs hi ha
  obtain ⟨x0, x1, rfl⟩ : ∃ x0 x1, vs = [x0, x1] := by
    have := ha.1
    match vs, this with
    | [a, b], _ => exact ⟨a, b, rfl⟩
  obtain ⟨hmn, rfl⟩ := ha.2 0 _ _ rfl rfl
  obtain ⟨hk, rfl⟩ := ha.2 1 _ _ rfl rfl
  have hk := hk (k, o) (by simp)
  obtain ⟨us, q1, q2, q3, q4⟩ := (hi.body hk.1 hcs (by simp)).cells
  have hul : o < us.length := by rw [q2.1]; exact hlt
  have hu : us[o]? = some us[o] := List.getElem?_eq_getElem hul
  have hr := (q2.2 o _ _ (lget_eq _ _ hlt) hu).1
  have hid' : lget o cs = .int .i64 id := hid
  rw [hid'] at hr
  have hr : us[o] = .int .i64 id := hr
  have hcell : w.cell? ⟨(g k).b, (g k).o + o, none⟩ = some (.int .i64 id) := by
    have := q4 o _ hu
    rw [hr] at this
    exact this
  obtain ⟨ms, cl0, hms, hmo⟩ := map_at hi hmn.1 (own_body ho)
  obtain ⟨es0, hmr, hsim, hwf, hin, hle0, hnd, hin'⟩ := okM_at hmo hok
  obtain ⟨l0, hl0, hpl⟩ := pinsK_perm (D := D) (h := h) (poff := off) hsim.symm (by rw [← pins_kv]; exact hl)
  rw [← pins_kv] at hl0
  obtain ⟨z1, z2, z3, z4⟩ := zip_read (Pr := Pr) hi hK hmr hin (pins_all hl0)
  have hown : w.ownsMap Pr K (ownR w off) (g m).b es0.length (.map ((ms.map (rg Pr K (ownR w off))).foldr DataW.insert [])) := by
    obtain ⟨es', cl', hb', hF, hsz, _⟩ := owns_of (P := Pr) hK hms hmr hwf hin hle0
    rw [hms] at hb'
    simp only [Option.some.injEq, Obj.map.injEq] at hb'
    obtain ⟨rfl, rfl⟩ := hb'
    exact ⟨ms.toArray, cl0, hms, ⟨hF.size, hF.stamped, fun x hx => z3 x hx⟩, hsz, rfl⟩
  have hc := hs w (g m).b es0.length (g k).b ((g k).o + o) id _ hown hcell
  have hargs : ([Value.map (some (g m).b), Value.func (.func fi) #[] ([((k : Nat), (o : Nat))].map fun p => Value.pointer (some (addrOf g p.1 p.2))).toArray] : List Value).toArray = #[.map (some (g m).b), .func (.func fi) #[] #[.pointer (some ⟨(g k).b, (g k).o + o, none⟩)]] := by
    simp [addrOf]
  rw [hargs]
  refine hc.mono fun e w' ⟨he0, hown', hgr⟩ => ?_
  obtain ⟨es', clk, hb', hF', hsz', hD⟩ := hown'
  have hD : ((ms.map (rg Pr K (ownR w off))).foldr DataW.insert []).filter (fun p => !ownIs id p.1 p.2) = (es'.toList.map (rg Pr K (ownR w off))).foldr DataW.insert [] := by
    injection hD
  have hP : (es'.toList.map (rg Pr K (ownR w off))).Perm (((es0.zip ms).filter fun z => !(keyEq (pv D off h z.1.val) id)).map (encO D off h)) := by
    refine (Go.WideShapes.sorted_perm _).symm.trans ?_
    rw [← hD]
    refine ((Go.WideShapes.sorted_perm _).filter _).trans ?_
    rw [z1, List.filter_map]
    refine List.Perm.of_eq ?_
    congr 1
    refine List.filter_congr fun z _ => ?_
    simp only [Function.comp, encO, ownIs]
    congr 1
    by_cases hq : pv D off h z.1.val = id
    · rw [decide_eq_true hq, keyEq_iff.2 hq]
    · rw [decide_eq_false hq]
      cases hk : keyEq (pv D off h z.1.val) id with
      | false => rfl
      | true => exact absurd (keyEq_iff.1 hk) hq
  obtain ⟨B, hB1, hB2⟩ := perm_lift hP rfl
  obtain ⟨r1, r2, r3⟩ := remake_ok (g := g) (c := c) hK hB2 (fun x hx => hF'.reads x hx) (fun z hz => z4 z ((List.mem_filter.1 (hB1.mem_iff.1 hz)).1))
  have hsim2 : simM (keepM D off h id es) (remake B es'.toList) := by
    unfold simM
    rw [r2]
    refine (hB1.map _).trans ?_
    have e1 : ((es0.zip ms).filter fun z => !(keyEq (pv D off h z.1.val) id)).map (fun z => kvM z.1) = (es0.map kvM).filter (fun q => !(keyEq (pv D off h q.2) id)) := by
      rw [List.filter_map]
      have e2 : ((es0.zip ms).filter fun z => !(keyEq (pv D off h z.1.val) id)).map Prod.fst = es0.filter fun e => !(keyEq (pv D off h e.val) id) := by
        conv => rhs; rw [← z2]
        rw [List.filter_map]; rfl
      have e3 : (fun q : Int × HV => !(keyEq (pv D off h q.2) id)) ∘ kvM = fun e : ME => !(keyEq (pv D off h e.val) id) := rfl
      rw [e3, ← e2, List.map_map]; rfl
    have e4 : (keepM D off h id es).map kvM = (es.map kvM).filter (fun q => !(keyEq (pv D off h q.2) id)) := by
      rw [List.filter_map]; rfl
    rw [e1, e4]
    exact hsim.filter _
  have hwf2 : wfM (remake B es'.toList) clk := by
    refine ⟨hsim2.keys.nodup_iff.2 (hnd.sublist ((List.filter_sublist).map _)), by rw [r3]; exact hF'.stamped.2.1, fun e he => ?_⟩
    have : e.born ∈ (remake B es'.toList).map ME.born := List.mem_map_of_mem he
    rw [r3] at this
    obtain ⟨x, hx, hbx⟩ := List.mem_map.1 this
    rw [← hbx]; exact hF'.stamped.1 x hx
  cases he
  have hk4 : m < 4 ^ D := Nat.lt_of_lt_of_le hmn.1 hi.le
  have ho' : hp D h m = .own 0 (.map es cl) := by rw [hp_lt hk4]; exact ho
  obtain ⟨ms0, cl2, b1, b2, b3⟩ := (hi.inv.own m 0 _ ho').asMap
  have hbk : BOk g c (g m) (.map (keepM D off h id es) uM) w' := .inr ⟨_, uM, clk, es'.toList, rfl, by simpa using hb', b2, .inr ⟨Nat.le_refl _, _, r1, hsim2, hwf2⟩⟩
  have hchg : Chg (g m).b w w' := ⟨hgr.os, hgr.tape, hgr.output, hgr.size, fun b hb hne => hgr.block b hb (fun e => hne (by injection e))⟩
  obtain ⟨e1, e2⟩ := hp_unpre (D := D) (h := h) (pre := 0) (c := c) hi.deep (.inl rfl)
  have hst := hp_set (o := .own 0 (.map (keepM D off h id es) uM)) e2 hk4
  have hps := Post.set hi.inv ho' hchg hbk
  rw [e1] at hst
  rw [← hst] at hps
  exact ⟨.tuple #[], g, he0, ⟨deep_set _ _ _ _ e2, hi.le, hps.inv, hi.kp.post hps⟩, hps, ⟨[], rfl, rfl, fun i x y hx hy => by simp at hx⟩⟩
end
end
end Go.FM
