/-
  Texts of a proof over the translated program: proved evaluators and walks, part 5 of 23.
-/
import Derived.Test.YtcogajgikmcfpaaGreatDoorPartQ4
import Derived.Great.BuildSlice
import Derived.Laws.CopyRow
import Derived.MapKept
import Derived.WalkKit
set_option linter.unusedVariables false
set_option linter.unusedSimpArgs false
set_option linter.unusedSectionVars false
set_option linter.unnecessarySimpa false
section
namespace Go.FM
noncomputable section
variable [Env]
theorem keyEq_iff {a b : Int} : keyEq a b = true ↔ a = b := by
  unfold keyEq
  cases a <;> cases b <;> simp [Nat.beq_eq] <;> omega
theorem keyEq_beq (a b : Int) : (b == a) = keyEq a b := by
  by_cases h : a = b
  · subst h
    rw [keyEq_iff.2 rfl]; simp
  · cases hk : keyEq a b with
    | true => exact absurd (keyEq_iff.1 hk) h
    | false => exact beq_eq_false_iff_ne.2 fun e => h e.symm
section
variable {Pr : Program} {D : Nat} {w w' : World} {g : Gm} {h h' : HT} {c c' : Nat} {v : HV}
def keyI (key : Int) : Value := .int .i64 key
theorem sameNow_int (a b : Int) : Instr.sameNow (.int .i64) (keyI a) (keyI b) = some (keyEq b a) := by
  rw [← keyEq_beq]; rfl
theorem find_ok (key : Int) : ∀ {es : List ME} {ms : List MapEntry}, MReps g c es ms → ∀ i,
    (findM key es = none ∧ (∀ v, putM key v es = none) ∧ bornM key es = none ∧ delM key es = es ∧ Instr.findNow (.int .i64) (keyI key) ms i = some none) ∨
    (∃ j v m, findM key es = some v ∧ bornM key es = some m.born ∧ ms[j]? = some m ∧ m.key = keyI key ∧ VRep g c v m.val ∧ Instr.findNow (.int .i64) (keyI key) ms i = some (some (i + j, m.val)) ∧
      (∀ v' u', VRep g c v' u' → ∃ l, putM key v' es = some l ∧ MReps g c l (ms.modify j fun e => { e with key := keyI key, val := u' })) ∧ MReps g c (delM key es) (ms.eraseIdx j))
  | [], [], h, i => .inl ⟨rfl, fun _ => rfl, rfl, rfl, rfl⟩
  | [], _ :: _, h, i => h.elim
  | _ :: _, [], h, i => h.elim
  | e :: r, m :: s, h, i => by
    obtain ⟨⟨hk, hv, hb⟩, hr⟩ := h
    have hf : Instr.findNow (.int .i64) (keyI key) (m :: s) i = match some (keyEq e.key key) with
        | some true => some (some (i, m.val))
        | some false => Instr.findNow (.int .i64) (keyI key) s (i + 1)
        | none => none := by
      have := sameNow_int key e.key
      show (match Instr.sameNow (.int .i64) (keyI key) m.key with
        | some true => some (some (i, m.val))
        | some false => Instr.findNow (.int .i64) (keyI key) s (i + 1)
        | none => none) = _
      rw [hk, show Value.int .i64 e.key = keyI e.key from rfl, this]
    cases hq : keyEq e.key key with
    | true =>
      have hke : e.key = key := keyEq_iff.1 hq
      right
      refine ⟨0, e.val, m, by simp [findM, hq], by simp [bornM, hq, hb], rfl, by rw [hk, hke]; rfl, hv, by rw [hf, hq]; rfl, fun v' u' hvu => ⟨⟨e.key, v', e.born⟩ :: r, by simp [putM, hq], ?_⟩, by simp only [delM, hq, if_true]; exact hr⟩
      rw [List.modify_zero_cons]
      exact ⟨⟨by rw [hke]; rfl, hvu, hb⟩, hr⟩
    | false =>
      rcases find_ok key hr (i + 1) with ⟨h1, h2, h3, h4, h5⟩ | ⟨j, v, m', h1, h2, h3, h4, h5, h6, h7, h8⟩
      · left
        exact ⟨by simp [findM, hq, h1], fun v => by simp [putM, hq, h2], by simp [bornM, hq, h3], by simp [delM, hq, h4], by rw [hf, hq]; exact h5⟩
      · right
        refine ⟨j + 1, v, m', by simp [findM, hq, h1], by simp [bornM, hq, h2], by simpa using h3, h4, h5, by rw [hf, hq]; simp only; rw [h6, Nat.add_assoc, Nat.add_comm 1 j], fun v' u' hvu => ?_, ?_⟩
        · obtain ⟨l, q1, q2⟩ := h7 v' u' hvu
          refine ⟨e :: l, by simp [putM, hq, q1], ?_⟩
          rw [List.modify_succ_cons]
          exact ⟨⟨hk, hv, hb⟩, q2⟩
        · have e1 : delM key (e :: r) = e :: delM key r := by simp [delM, hq]
          rw [e1, List.eraseIdx_cons_succ]
          exact ⟨⟨hk, hv, hb⟩, h8⟩
theorem MReps.push : ∀ {es : List ME} {ms : List MapEntry} {e : ME} {m : MapEntry}, MReps g c es ms → MRep g c e m → MReps g c (es ++ [e]) (ms ++ [m])
  | [], [], e, m, _, k => ⟨k, trivial⟩
  | [], _ :: _, _, _, h, _ => h.elim
  | _ :: _, [], _, _, h, _ => h.elim
  | _ :: _, _ :: _, e, m, h, k => ⟨h.1, MReps.push h.2 k⟩
theorem MReps.len : ∀ {es : List ME} {ms : List MapEntry}, MReps g c es ms → ms.length = es.length
  | [], [], _ => rfl
  | [], _ :: _, h => h.elim
  | _ :: _, [], h => h.elim
  | _ :: _, _ :: _, h => by simp [MReps.len h.2]
theorem stamp_ok (b : Nat) (v : HV) (u : Value) (hv : VRep g c v u) : ∀ {es : List ME} {ms : List MapEntry} {l : List ME}, MReps g c es ms → storeM b v es = some l → ∃ i, ms.findIdx? (fun e => (e.born : Int) == (b : Int)) = some i ∧ MReps g c l (ms.modify i fun e => { e with val := u })
  | [], [], _, h, hs => by cases hs
  | [], _ :: _, _, h, _ => h.elim
  | _ :: _, [], _, h, _ => h.elim
  | e :: r, m :: s, l, h, hs => by
    obtain ⟨⟨hk, hw, hb⟩, hr⟩ := h
    unfold storeM at hs
    have hbb : ((m.born : Int) == (b : Int)) = Nat.beq e.born b := by
      rw [hb]
      cases hq : Nat.beq e.born b with
      | true => rw [Nat.eq_of_beq_eq_true hq]; simp
      | false =>
        apply beq_eq_false_iff_ne.2
        intro he
        have : e.born = b := by omega
        rw [this, Nat.beq_refl] at hq; cases hq
    cases hq : Nat.beq e.born b with
    | true =>
      rw [hq, if_pos rfl] at hs
      simp only [Option.some.injEq] at hs; subst hs
      refine ⟨0, by simp [List.findIdx?_cons, hbb, hq], ?_⟩
      rw [List.modify_zero_cons]
      exact ⟨⟨hk, hv, hb⟩, hr⟩
    | false =>
      rw [hq] at hs
      simp only [Bool.false_eq_true, if_false] at hs
      split at hs
      · rename_i l' hl
        simp only [Option.some.injEq] at hs; subst hs
        obtain ⟨i, q1, q2⟩ := stamp_ok b v u hv hr hl
        refine ⟨i + 1, by simp [List.findIdx?_cons, hbb, hq, q1], ?_⟩
        rw [List.modify_succ_cons]
        exact ⟨⟨hk, hw, hb⟩, q2⟩
      · cases hs
theorem find_none_iff {key : Int} : ∀ {es : List ME}, findM key es = none ↔ key ∉ es.map ME.key
  | [] => by simp [findM]
  | e :: r => by
    unfold findM
    cases hq : keyEq e.key key with
    | true => simp [keyEq_iff.1 hq]
    | false =>
      have hne : ¬ key = e.key := fun h => by rw [h, keyEq_iff.2 rfl] at hq; cases hq
      rw [if_neg (by simp), find_none_iff (es := r)]
      simp [hne]
theorem del_none {key : Int} : ∀ {es : List ME}, findM key es = none → delM key es = es
  | [], _ => rfl
  | e :: r, h => by
    unfold findM at h
    cases hq : keyEq e.key key with
    | true => rw [hq, if_pos rfl] at h; cases h
    | false =>
      rw [hq, if_neg (by simp)] at h
      simp only [delM, hq, Bool.false_eq_true, if_false, del_none h]
theorem put_none {key : Int} (v : HV) : ∀ {es : List ME}, findM key es = none → putM key v es = none
  | [], _ => rfl
  | e :: r, h => by
    unfold findM at h
    cases hq : keyEq e.key key with
    | true => rw [hq, if_pos rfl] at h; cases h
    | false =>
      rw [hq, if_neg (by simp)] at h
      simp only [putM, hq, Bool.false_eq_true, if_false, put_none v h]
theorem put_kv {key : Int} (v : HV) : ∀ {es : List ME}, (es.map ME.key).Nodup → ∀ {x : HV}, findM key es = some x → ∃ l, putM key v es = some l ∧ l.map kvM = (es.map kvM).map (fun p => if p.1 = key then (p.1, v) else p) ∧ l.map ME.key = es.map ME.key ∧ l.map ME.born = es.map ME.born
  | [], _, x, h => by cases h
  | e :: r, hn, x, h => by
    simp only [List.map_cons, List.nodup_cons] at hn
    unfold findM at h
    cases hq : keyEq e.key key with
    | true =>
      have hk := keyEq_iff.1 hq
      refine ⟨⟨e.key, v, e.born⟩ :: r, by simp [putM, hq], ?_, rfl, rfl⟩
      simp only [List.map_cons, kvM, hk, if_true]
      congr 1
      rw [List.map_map]
      refine (List.map_congr_left fun a ha => ?_).symm
      have : a.key ≠ key := fun e1 => hn.1 (by rw [hk, ← e1]; exact List.mem_map_of_mem ha)
      simp [kvM, this]
    | false =>
      rw [hq, if_neg (by simp)] at h
      obtain ⟨l, q1, q2, q3, q4⟩ := put_kv v hn.2 h
      have hne : ¬ e.key = key := fun h => by rw [h, keyEq_iff.2 rfl] at hq; cases hq
      exact ⟨e :: l, by simp [putM, hq, q1], by simp [q2, kvM, hne], by simp [q3], by simp [q4]⟩
theorem del_kv {key : Int} : ∀ {es : List ME}, (es.map ME.key).Nodup → (delM key es).map kvM = (es.map kvM).filter fun p => decide (p.1 ≠ key)
  | [], _ => rfl
  | e :: r, hn => by
    simp only [List.map_cons, List.nodup_cons] at hn
    cases hq : keyEq e.key key with
    | true =>
      have hk := keyEq_iff.1 hq
      have e1 : delM key (e :: r) = r := by simp [delM, hq]
      rw [e1, List.map_cons, List.filter_cons_of_neg (by simp [kvM, hk])]
      rw [List.filter_eq_self.2]
      intro p hp
      obtain ⟨a, ha, rfl⟩ := List.mem_map.1 hp
      have : a.key ≠ key := fun e1 => hn.1 (by rw [hk, ← e1]; exact List.mem_map_of_mem ha)
      simp [kvM, this]
    | false =>
      have hne : ¬ e.key = key := fun h => by rw [h, keyEq_iff.2 rfl] at hq; cases hq
      have e1 : delM key (e :: r) = e :: delM key r := by simp [delM, hq]
      rw [e1, List.map_cons, List.map_cons, List.filter_cons_of_pos (by simp [kvM, hne]), del_kv hn.2]
theorem del_sub {key : Int} : ∀ {es : List ME}, (delM key es).Sublist es
  | [] => .slnil
  | e :: r => by
    cases hq : keyEq e.key key with
    | true => simp only [delM, hq, if_true]; exact List.sublist_cons_self e r
    | false => simp only [delM, hq, Bool.false_eq_true, if_false]; exact del_sub.cons_cons e
theorem keys_kv (es : List ME) : es.map ME.key = (es.map kvM).map Prod.fst := by rw [List.map_map]; rfl
theorem simM.keys {es es0 : List ME} (h : simM es es0) : (es0.map ME.key).Perm (es.map ME.key) := by
  rw [keys_kv, keys_kv]; exact h.map _
theorem find_kv {key : Int} : ∀ {es : List ME}, (es.map ME.key).Nodup → ∀ {x : HV}, findM key es = some x ↔ (key, x) ∈ es.map kvM
  | [], _, x => by simp [findM]
  | e :: r, hn, x => by
    simp only [List.map_cons, List.nodup_cons] at hn
    unfold findM
    cases hq : keyEq e.key key with
    | true =>
      have hk := keyEq_iff.1 hq
      rw [if_pos rfl]
      constructor
      · intro h; cases h; simp [kvM, hk]
      · intro h
        rcases List.mem_cons.1 h with h | h
        · simp only [kvM, Prod.mk.injEq] at h; rw [h.2]
        · exfalso
          apply hn.1
          rw [hk, keys_kv]
          exact List.mem_map.2 ⟨(key, x), h, rfl⟩
    | false =>
      have hne : ¬ key = e.key := fun h => by rw [h, keyEq_iff.2 rfl] at hq; cases hq
      rw [if_neg (by simp), find_kv hn.2]
      simp [kvM, hne]
theorem wfM.sub {es l : List ME} {cl : Nat} (h : wfM es cl) (hs : l.Sublist es) : wfM l cl :=
  ⟨h.1.sublist (hs.map _), h.2.1.sublist (hs.map _), fun e he => h.2.2 e (hs.subset he)⟩
theorem find_ok2 (key : Int) {es : List ME} {cl cl0 : Nat} {ms : List MapEntry} (h : MapOk g c es cl cl0 ms) :
    (findM key es = none ∧ (∀ v, putM key v es = none) ∧ delM key es = es ∧ Instr.findNow (.int .i64) (keyI key) ms 0 = some none ∧ (∀ v u, VRep g c v u → Nat.beq (Nat.succ cl) uM = false → MapOk g c (es ++ [⟨key, v, cl⟩]) (Nat.succ cl) (Nat.succ cl0) (ms ++ [⟨keyI key, u, cl0⟩]))) ∨
    (∃ j v m, findM key es = some v ∧ ms[j]? = some m ∧ m.key = keyI key ∧ VRep g c v m.val ∧ Instr.findNow (.int .i64) (keyI key) ms 0 = some (some (j, m.val)) ∧
      (∀ v' u', VRep g c v' u' → ∃ l, putM key v' es = some l ∧ MapOk g c l cl cl0 (ms.modify j fun e => { e with key := keyI key, val := u' })) ∧ MapOk g c (delM key es) cl cl0 (ms.eraseIdx j)) := by
  rcases h with ⟨hr, rfl, hlt⟩ | ⟨hU, es0, hr, hs, hw⟩
  · rcases find_ok key hr 0 with ⟨h1, h2, h3, h4, h5⟩ | ⟨j, v, m, h1, h2, h3, h4, h5, h6, h7, h8⟩
    · exact .inl ⟨h1, h2, h4, h5, fun v u hv hq => .inl ⟨hr.push ⟨rfl, hv, rfl⟩, rfl, by have := Nat.ne_of_beq_eq_false hq; omega⟩⟩
    · refine .inr ⟨j, v, m, h1, h3, h4, h5, by simpa using h6, fun v' u' hv => ?_, .inl ⟨h8, rfl, hlt⟩⟩
      obtain ⟨l, q1, q2⟩ := h7 v' u' hv
      exact ⟨l, q1, .inl ⟨q2, rfl, hlt⟩⟩
  · have hn0 := hw.1
    have hn : (es.map ME.key).Nodup := hs.keys.nodup_iff.1 hn0
    rcases find_ok key hr 0 with ⟨h1, h2, h3, h4, h5⟩ | ⟨j, v, m, h1, h2, h3, h4, h5, h6, h7, h8⟩
    · have hf : findM key es = none := find_none_iff.2 fun hm => find_none_iff.1 h1 (hs.keys.mem_iff.2 hm)
      refine .inl ⟨hf, fun v => put_none v hf, del_none hf, h5, fun v u hv _ => .inr ⟨Nat.le_succ_of_le hU, es0 ++ [⟨key, v, cl0⟩], hr.push ⟨rfl, hv, rfl⟩, ?_, ?_, ?_, ?_⟩⟩
      · unfold simM
        simp only [List.map_append, List.map_cons, List.map_nil]
        exact List.Perm.append hs (List.Perm.refl _)
      · rw [List.map_append]
        refine List.nodup_append.2 ⟨hn0, by simp, ?_⟩
        intro a ha b hb
        simp only [List.map_cons, List.map_nil, List.mem_singleton] at hb
        subst hb
        exact fun e => find_none_iff.1 h1 (e ▸ ha)
      · rw [List.map_append]
        refine List.nodup_append.2 ⟨hw.2.1, by simp, ?_⟩
        intro a ha b hb
        simp only [List.map_cons, List.map_nil, List.mem_singleton] at hb
        subst hb
        obtain ⟨e, he, rfl⟩ := List.mem_map.1 ha
        have := hw.2.2 e he
        omega
      · intro e he
        rcases List.mem_append.1 he with he | he
        · exact Nat.lt_succ_of_lt (hw.2.2 e he)
        · simp only [List.mem_singleton] at he; subst he; exact Nat.lt_succ_self cl0
    · have hf : findM key es = some v := (find_kv hn).2 (hs.mem_iff.1 ((find_kv hn0).1 h1))
      refine .inr ⟨j, v, m, hf, h3, h4, h5, by simpa using h6, fun v' u' hv => ?_, .inr ⟨hU, delM key es0, h8, ?_, hw.sub del_sub⟩⟩
      · obtain ⟨l0, q1, q2⟩ := h7 v' u' hv
        obtain ⟨l0', p1, p2, p3, p4⟩ := put_kv (key := key) v' hn0 h1
        obtain ⟨l, r1, r2, r3, r4⟩ := put_kv (key := key) v' hn hf
        rw [p1] at q1
        have e0 := Option.some.inj q1
        rw [← e0] at q2
        refine ⟨l, r1, .inr ⟨hU, l0', q2, ?_, ?_, ?_, ?_⟩⟩
        · unfold simM; rw [p2, r2]; exact hs.map _
        · rw [p3]; exact hn0
        · rw [p4]; exact hw.2.1
        · intro e he
          have : e.born ∈ l0'.map ME.born := List.mem_map_of_mem he
          rw [p4] at this
          obtain ⟨e', he', hb⟩ := List.mem_map.1 this
          rw [← hb]; exact hw.2.2 e' he'
      · unfold simM; rw [del_kv hn0, del_kv hn]; exact hs.filter _
theorem MapOk.len {es : List ME} {cl cl0 : Nat} {ms : List MapEntry} (h : MapOk g c es cl cl0 ms) : ms.length = es.length := by
  rcases h with ⟨h1, _⟩ | ⟨_, es0, h1, h2, _⟩
  · exact h1.len
  · rw [h1.len]; simpa using h2.length_eq
theorem MapOk.clear {es : List ME} {cl cl0 : Nat} {ms : List MapEntry} (h : MapOk g c es cl cl0 ms) : MapOk g c [] cl cl0 [] := by
  rcases h with ⟨h1, h2⟩ | ⟨h1, es0, h2, h3, h4⟩
  · exact .inl ⟨trivial, h2⟩
  · exact .inr ⟨h1, [], trivial, List.Perm.refl _, by simp [wfM]⟩
theorem MapOk.exact {es : List ME} {cl cl0 : Nat} {ms : List MapEntry} (h : MapOk g c es cl cl0 ms) (hc : Nat.blt cl uM = true) : MReps g c es ms ∧ cl0 = cl ∧ cl < uM := by
  rcases h with h | ⟨h1, _⟩
  · exact h
  · have : cl < uM := Nat.le_of_ble_eq_true hc
    omega
theorem mapT_some {t et : TypeId} (h : mapT Pr t = some et) : ∃ kt, Pr.underlying t = some (.map kt et) ∧ Pr.underlying kt = some (.int .i64) := by
  unfold mapT at h
  split at h
  · rename_i kt et' h1
    split at h
    · rename_i h2
      simp only [Option.some.injEq] at h; subst h
      exact ⟨kt, h1, h2⟩
    · cases h
  · cases h
theorem run_checkN {kt : TypeId} (h : Pr.underlying kt = some (.int .i64)) (e : Bool) (n : Nat) (key : Int) (w : World) : (Instr.checkKey e (n + 1) kt (keyI key)).run Pr w = .ok () w := by
  simp [Instr.checkKey, run_underlying h, keyI]
theorem run_checkInt {kt : TypeId} (h : Pr.underlying kt = some (.int .i64)) (e : Bool) (key : Int) (w : World) : (Instr.checkKey e 10000 kt (keyI key)).run Pr w = .ok () w := run_checkN h e 9999 key w
theorem run_findInt {kt : TypeId} (h : Pr.underlying kt = some (.int .i64)) {key : Int} {ms : List MapEntry} {r : Option (Nat × Value)} (hf : Instr.findNow (.int .i64) (keyI key) ms 0 = some r) (w : World) : (Instr.findKey kt (keyI key) ms).run Pr w = .ok r w := by
  simp [Instr.findKey, run_underlying h, hf]
theorem live_val {x : HV} {u : Value} (h : TRep g c x u) (hl : liveV x = true) : VRep g c x u := by
  cases x <;> first | exact h | cases hl
theorem zero_ok {t : TypeId} (hl : liveV (zeroT Pr t) = true) : ∃ z, (∀ w, (zeroValue t).run Pr w = .ok z w) ∧ VRep g c (zeroT Pr t) z := by
  obtain ⟨i, z, hi, hz, he⟩ := zeroT_some (Pr := Pr) (t := t) (fun e => by rw [e] at hl; cases hl)
  exact ⟨z, fun w => by simp [zeroValue, typeInfo, hi, hz], by rw [he]; exact constV_ok z⟩
theorem map_at (hi : HOk D g h c w) {k : Nat} {es : List ME} {cl : Nat} (hk : k < c) (hb : (HT.get D k h).body = .map es cl) : ∃ (ms : List MapEntry) (cl0 : Nat), w.heap[(g k).b]? = some (.map ms.toArray cl0) ∧ MapOk g c es cl cl0 ms := by
  obtain ⟨ms, cl0, h1, _, h3⟩ := (hi.body hk hb (by simp)).asMap
  exact ⟨ms, cl0, h1, h3⟩
theorem tup_ok {z : Bool} {a : HV} {u : Value} (ha : VRep g c a u) (ok : Bool) : TRep g c (okTup ok a z) (if ok then .tuple #[u, .bool z] else u) := by
  cases ok with
  | false => exact TRep.of_val ha
  | true =>
    refine ⟨[u, .bool z], rfl, rfl, fun i x y hx hy => ?_⟩
    match i with
    | 0 => simp at hx hy; subst hx; subst hy; exact ha
    | 1 => simp at hx hy; subst hx; subst hy; rfl
    | i + 2 => simp at hx
theorem lookup_ok {t : TypeId} {ok : Bool} {f : HT → HV → HV} (hf : lookupF Pr D t ok = .f f) (hi : HOk D g h c w) {x y : HV} {u z : Value} (hx : TRep g c x u) (hy : TRep g c y z) (hl : f h (.tup [x, y]) ≠ .dead) :
    ∃ r, (Instr.lookup t u z ok).run Pr w = .ok r w ∧ TRep g c (f h (.tup [x, y])) r := by
  unfold lookupF at hf
  split at hf
  · rename_i et ht
    obtain ⟨kt, hu, hkt⟩ := mapT_some ht
    split at hf
    · rename_i hlive
      injection hf with hf; subst hf
      obtain ⟨zv, hz1, hz2⟩ := zero_ok (g := g) (c := c) hlive
      unfold lookupV at hl ⊢
      cases y <;> try exact absurd rfl hl
      rename_i ik key
      simp only at hl ⊢
      split at hl
      · rename_i hik
        rw [if_pos hik]
        have := ikEq_eq hik; subst this
        have ez : z = keyI key := hy
        subst ez
        unfold lookV at hl ⊢
        cases x <;> try exact absurd rfl hl
        · rename_i k
          obtain ⟨hk, rfl⟩ := hx
          simp only at hl ⊢
          split at hl
          · rename_i es cl hb
            obtain ⟨ms, cl0, hm, hr⟩ := map_at hi hk.1 hb
            rcases find_ok2 key hr with ⟨h1, h2, h4, h5, h9⟩ | ⟨j, v, m, h1, h3, h4, h5, h6, h7, h8⟩
            · simp only [h1]
              refine ⟨_, ?_, tup_ok hz2 ok⟩
              simp [Instr.lookup, run_underlying hu, MapKept.run_getObj_map hm, run_checkInt hkt, run_findInt hkt h5, hz1]
            · simp only [h1]
              refine ⟨_, ?_, tup_ok h5 ok⟩
              simp [Instr.lookup, run_underlying hu, MapKept.run_getObj_map hm, run_checkInt hkt, run_findInt hkt h6]
          · exact absurd rfl hl
        · have e1 : u = .map none := hx
          subst e1
          refine ⟨_, ?_, tup_ok hz2 ok⟩
          have h5 : Instr.findNow (.int .i64) (keyI key) [] 0 = some none := rfl
          simp [Instr.lookup, run_underlying hu, run_checkInt hkt, run_findInt hkt h5, hz1]
      · exact absurd rfl hl
    · cases hf
  · cases hf
theorem lookupF_not {t : TypeId} {ok : Bool} {f : HV → HV} (h : lookupF Pr D t ok = .p f) : False := by
  unfold lookupF at h
  split at h
  · split at h <;> cases h
  · cases h
theorem lenM_ok {t : TypeId} {kt et : TypeId} (ht : Pr.underlying t = some (.map kt et)) (hi : HOk D g h c w) {x : HV} {u : Value} {ty : TypeId} {rest : List TypeId} (hx : TRep g c x u) (hl : lenM D h x ≠ .dead) :
    ∃ r, (Builtin.len_ (t :: rest).toArray ty #[u]).run Pr w = .ok r w ∧ TRep g c (lenM D h x) r := by
  unfold lenM at hl ⊢
  cases x <;> try exact absurd rfl hl
  · rename_i k
    obtain ⟨hk, rfl⟩ := hx
    simp only at hl ⊢
    split at hl
    · rename_i es cl hb
      obtain ⟨ms, cl0, hm, hr⟩ := map_at hi hk.1 hb
      refine ⟨.int .i64 (Int.ofNat es.length), ?_, rfl⟩
      rw [← hr.len]
      simp [Builtin.len_, Builtin.lenOf, run_underlying ht, MapKept.run_getObj_map hm, goInt]
    · exact absurd rfl hl
  · have e1 : u = .map none := hx
    subst e1
    exact ⟨_, by simp [Builtin.len_, Builtin.lenOf, run_underlying ht]; rfl, rfl⟩
theorem bounds_wide {len cap : Nat} {lo : Option Value} {xl xh : HV} {vh : Value} {b l : Nat} (hlo : LoRep g c lo xl) (hhi : TRep g c xh vh) (hb : natOf xh = some b) (hc : b ≤ cap) (h2 : boundM b xl = some l) :
    (Instr.sliceBounds true len cap lo (some vh) none).run Pr w = .ok (l, b, cap) w ∧ l ≤ b := by
  obtain ⟨k, rfl⟩ := natOf_some hb
  have e : vh = .int k (b : Int) := hhi
  subst e
  cases lo with
  | none =>
    have : xl = .int .i64 (.ofNat 0) := hlo
    subst this
    have h2 : (if Nat.ble 0 b then some 0 else none) = some l := h2
    simp at h2; subst h2
    exact ⟨by simp [Instr.sliceBounds, sliceBound_run (Pr := Pr) (w := w) _ hc], by omega⟩
  | some v =>
    obtain ⟨k2, rfl, hl⟩ := boundM_some hlo h2
    exact ⟨by simp [Instr.sliceBounds, sliceBound_run (Pr := Pr) (w := w) _ hc, sliceBound_run (Pr := Pr) (w := w) _ hl], hl⟩
theorem sliceWide_ok {hh : Bool} {t e : TypeId} {sz : Nat} (hu : Pr.underlying t = some (.slice e)) (hsz : sizeT Pr e = some sz) (hi : HOk D g h c w) {x xl xh : HV} {v : Value} {lo hv : Option Value} (hx : TRep g c x v) (hlo : LoRep g c lo xl) (hhi : HiRep g c hh hv xh) (hl : sliceWide D hh sz h x xl xh ≠ .dead) :
    ∃ u, (Instr.sliceAt t v lo hv none).run Pr w = .ok u w ∧ TRep g c (sliceWide D hh sz h x xl xh) u := by
  unfold sliceWide at hl ⊢
  cases x <;> try exact absurd rfl hl
  rename_i k o n es cl
  obtain ⟨hk, A, m, e1, hnm, hmm, hes, hlen, hbs, hfull, hcl, hA⟩ := hx
  subst e1
  simp only at hl ⊢
  split at hl
  · rename_i hc
    rw [if_pos hc]
    simp only [Bool.and_eq_true, Bool.not_eq_true'] at hc
    obtain ⟨rfl, hcf, hes2⟩ := hc
    have := Nat.eq_of_beq_eq_true hes2; subst this
    have hfull := hfull hcf
    cases hv with
    | none => cases hhi
    | some vh =>
      obtain ⟨_, hhi⟩ := hhi
      split at hl
      · rename_i b hb
        split at hl
        · rename_i hc2
          rw [if_pos hc2]
          simp only [Bool.and_eq_true] at hc2
          have hnb : n < b := Nat.le_of_ble_eq_true hc2.1
          have hin : o + b * es ≤ sizeO (HT.get D k h).body := Nat.le_of_ble_eq_true hc2.2
          have hno : (HT.get D k h).body ≠ .no := fun e => by
            rw [e] at hin
            have h0 : o + b * es ≤ 0 := hin
            have := Nat.mul_le_mul (show 1 ≤ b by omega) hes
            omega
          have hlb : (g k).len = sizeO (HT.get D k h).body := by
            have hbk := hi.body hk.1 rfl hno
            cases hm : isMap (HT.get D k h).body with
            | true =>
              exfalso
              cases hq : (HT.get D k h).body with
              | map es' cl' =>
                rw [hq] at hin
                have h0 : o + b * es ≤ 0 := hin
                have := Nat.mul_le_mul (show 1 ≤ b by omega) hes
                omega
              | _ => rw [hq] at hm; cases hm
            | false =>
              obtain ⟨us, _, _, q3, _⟩ := hbk.cells hm
              exact q3
          split at hl
          · rename_i l hl2
            have hbm : b ≤ m := by
              have h1 : b * es ≤ m * es := by omega
              exact Nat.le_of_mul_le_mul_right h1 hes
            obtain ⟨q, hlb2⟩ := bounds_wide (Pr := Pr) (w := w) (len := n) hlo hhi hb hbm hl2
            show ∃ u, _ ∧ TRep g c (HV.slc k (o + l * es) (b - l) es false) u
            refine ⟨.slice (some (if m = l then A else A.add (l * es))) (b - l) (m - l), ?_, hk, _, m - l, rfl, by omega, by omega, hes, ?_, ?_, fun hc => ?_, fun hc => (by cases hc), fun h0 => ?_⟩
            · simp [Instr.sliceAt, Instr.slice, run_underlying hu, q, sizeT_run hsz]
              split <;> simp_all
            · show o + l * es + (b - l) * es ≤ (g k).len
              have : l * es + (b - l) * es = b * es := by rw [← Nat.add_mul]; congr 1; omega
              omega
            · show (g k).o + (o + l * es) + (m - l) * es ≤ (g k).bs
              have : l * es + (m - l) * es = m * es := by rw [← Nat.add_mul]; congr 1; omega
              omega
            · show (g k).len ≤ o + l * es + (m - l) * es
              have : l * es + (m - l) * es = m * es := by rw [← Nat.add_mul]; congr 1; omega
              omega
            · rw [if_neg (by omega), hA (by omega), addr_add]
          · exact absurd rfl hl
        · exact absurd rfl hl
      · exact absurd rfl hl
  · exact absurd rfl hl
theorem sliceH_ok {hh : Bool} {t e : TypeId} {sz : Nat} (hu : Pr.underlying t = some (.slice e)) (hsz : sizeT Pr e = some sz) (hi : HOk D g h c w) {x xl xh : HV} {v : Value} {lo hv : Option Value} (hx : TRep g c x v) (hlo : LoRep g c lo xl) (hhi : HiRep g c hh hv xh) (hl : sliceH D hh sz h (.tup [x, xl, xh]) ≠ .dead) :
    ∃ u, (Instr.sliceAt t v lo hv none).run Pr w = .ok u w ∧ TRep g c (sliceH D hh sz h (.tup [x, xl, xh])) u := by
  have e1 : sliceH D hh sz h (.tup [x, xl, xh]) = orV (sliceSlc hh sz x xl xh) (sliceWide D hh sz h x xl xh) := rfl
  rw [e1] at hl ⊢
  have hf : sliceF Pr hh t = .f (sliceSlc hh sz) := by unfold sliceF; rw [hu]; simp only [hsz]
  by_cases hd : sliceSlc hh sz x xl xh = .dead
  · rw [hd] at hl ⊢
    exact sliceWide_ok hu hsz hi hx hlo hhi hl
  · have e2 : orV (sliceSlc hh sz x xl xh) (sliceWide D hh sz h x xl xh) = sliceSlc hh sz x xl xh := by
      cases hq : sliceSlc hh sz x xl xh <;> first | rfl | exact absurd hq hd
    rw [e2]
    exact sliceF_ok hf hx hlo hhi hd
def setB (w : World) (b : Nat) (o : Obj) : World := { w with heap := w.heap.setIfInBounds b o }
theorem Chg.setB (w : World) (b : Nat) (o : Obj) : Chg b w (setB w b o) := ⟨rfl, rfl, rfl, by simp [FM.setB], fun k _ hk => by simp only [FM.setB, Array.getElem?_setIfInBounds]; rw [if_neg (Ne.symm hk)]⟩
theorem set_eff {k cl cl' cl1 : Nat} {es es' : List ME} {ms ms' : List MapEntry} (hi : HOk D g h c w) (hk : Nm g c k) (ho : HT.get D k h = .own 0 (.map es cl)) {x : HV} (hr : setM D k x es' cl' h c = .ok v h' c') (hms : MapOk g c es' cl' cl1 ms') {r : Result Value} {z : Value}
    (hrun : r = .ok z (setB w (g k).b (.map ms'.toArray cl1))) (hv : TRep g c x z) : Eff D g h c w r v h' c' := by
  cases hr
  have hk4 : k < 4 ^ D := Nat.lt_of_lt_of_le hk.1 hi.le
  have ho' : hp D h k = .own 0 (.map es cl) := by rw [hp_lt hk4]; exact ho
  obtain ⟨ms0, cl0, b1, b2, b3⟩ := (hi.inv.own k 0 _ ho').asMap
  have hlt := (Array.getElem?_eq_some_iff.1 b1).1
  have hb : BOk g c (g k) (.map es' cl') (setB w (g k).b (.map ms'.toArray cl1)) := .inr ⟨es', cl', cl1, ms', rfl, by simp [FM.setB, Array.getElem?_setIfInBounds, hlt], b2, hms⟩
  obtain ⟨e1, e2⟩ := hp_unpre (D := D) (h := h) (pre := 0) (c := c) hi.deep (.inl rfl)
  have hs := hp_set (o := .own 0 (.map es' cl')) e2 hk4
  have hps := Post.set hi.inv ho' (Chg.setB w _ _) hb
  rw [e1] at hs
  rw [← hs] at hps
  exact ⟨z, _, g, hrun, ⟨deep_set _ _ _ _ e2, hi.le, hps.inv, hi.kp.post hps⟩, hps, hv⟩
theorem own_body {k : Nat} {b : HB} {p : Nat} (ho : HT.get D k h = .own p b) : (HT.get D k h).body = b := by rw [ho]; rfl
theorem setIf_eq (w : World) (b : Nat) (o : Obj) : ({ w with heap := w.heap.setIfInBounds b o } : World) = setB w b o := rfl
theorem same_bits (key : Int) : Instr.sameBits 10000 (keyI key) (keyI key) = true := by
  have : ∀ n, Instr.sameBits n (keyI key) (keyI key) = true := fun n => by cases n <;> simp [Instr.sameBits, keyI]
  exact this _
theorem run_keyStays (key : Int) (w : World) : (Instr.keyThatStays (keyI key) (keyI key)).run Pr w = .ok (keyI key) w := by
  simp [Instr.keyThatStays, same_bits]
theorem upd_ok {t : TypeId} {f : HT → Nat → HV → HV → CR} (hf : updF Pr D t = .f f) (hi : HOk D g h c w) {x y q : HV} {ux uy uq : Value} (hx : TRep g c x ux) (hy : TRep g c y uy) (hq : TRep g c q uq) (hr : f h c x (.tup [y, q]) = .ok v h' c') :
    ∃ w' g', (Instr.mapUpdate t ux uy uq).run Pr w = .ok () w' ∧ HOk D g' h' c' w' ∧ Post g (hp D h) c w g' (hp D h') c' w' ∧ v = .und := by
  have fin : ∀ {r : Result Unit}, Eff D g h c w (r.andThen fun _ w => .ok undef w) v h' c' → v = .und → (∀ z w', (r.andThen fun _ w => .ok undef w) = .ok z w' → r = .ok () w') → ∃ w' g', r = .ok () w' ∧ HOk D g' h' c' w' ∧ Post g (hp D h) c w g' (hp D h') c' w' ∧ v = .und := fun ⟨z, w', g', q1, q2, q3, _⟩ hv hz => ⟨w', g', hz z w' q1, q2, q3, hv⟩
  have hz : ∀ (r : Result Unit) z w', (r.andThen fun _ w => .ok undef w) = .ok z w' → r = .ok () w' := fun r z w' he => by
    cases r with
    | ok u w1 => simp only [Result.andThen_ok, Result.ok.injEq] at he; rw [he.2]
    | _ => simp [Result.andThen] at he
  unfold updF at hf
  split at hf
  · rename_i et ht
    obtain ⟨kt, hu, hkt⟩ := mapT_some ht
    injection hf with hf; subst hf
    unfold updE at hr
    cases x <;> try (cases hr; done)
    rename_i k
    cases y <;> try (cases hr; done)
    rename_i ik key
    simp only at hr
    obtain ⟨hk, rfl⟩ := hx
    have ey : uy = .int ik key := hy
    subst ey
    split at hr
    · rename_i hc
      simp only [Bool.and_eq_true] at hc
      have := ikEq_eq hc.1; subst this
      have hqv := live_val hq hc.2
      split at hr
      · rename_i es cl ho
        obtain ⟨ms, cl0, hm, hms⟩ := map_at hi hk.1 (own_body ho)
        rcases find_ok2 key hms with ⟨h1, h2, h4, h5, h9⟩ | ⟨j, v0, m, h1, h3, h4, h5, h6, h7, h8⟩
        · rw [h2] at hr
          simp only at hr
          cases hbc : Nat.beq (Nat.succ cl) uM with
          | true => rw [hbc] at hr; cases hr
          | false =>
          rw [hbc] at hr
          simp only at hr
          have hv : v = .und := by cases hr; rfl
          refine fin (set_eff (ms := ms) (z := undef) (ms' := ms ++ [⟨keyI key, uq, cl0⟩]) hi hk ho hr (h9 _ _ hqv hbc) ?_ rfl) hv (hz _)
          have hr2 : (Instr.mapUpdate t (.map (some (g k).b)) (keyI key) uq).run Pr w = .ok () (setB w (g k).b (.map (ms ++ [(⟨keyI key, uq, cl0⟩ : MapEntry)]).toArray (Nat.succ cl0))) := by
            simp [Instr.mapUpdate, run_underlying hu, MapKept.run_getObj_map hm, run_checkInt hkt, run_findInt hkt h5, MapKept.run_setObj_map _ hm, setIf_eq]
          show ((Instr.mapUpdate t (.map (some (g k).b)) (keyI key) uq).run Pr w).andThen _ = _
          rw [hr2]; rfl
        · obtain ⟨l, q1, q2⟩ := h7 q uq hqv
          rw [q1] at hr
          simp only at hr
          have hv : v = .und := by cases hr; rfl
          refine fin (set_eff (ms := ms) (z := undef) hi hk ho hr q2 ?_ rfl) hv (hz _)
          have hr2 : (Instr.mapUpdate t (.map (some (g k).b)) (keyI key) uq).run Pr w = .ok () (setB w (g k).b (.map (ms.modify j fun e => { e with key := keyI key, val := uq }).toArray cl0)) := by
            simp [Instr.mapUpdate, run_underlying hu, MapKept.run_getObj_map hm, run_checkInt hkt, run_findInt hkt h6, h3, h4, run_keyStays, MapKept.run_setObj_map _ hm, setIf_eq]
          show ((Instr.mapUpdate t (.map (some (g k).b)) (keyI key) uq).run Pr w).andThen _ = _
          rw [hr2]; rfl
      · cases hr
    · cases hr
  · cases hf
theorem ent_ok {t : TypeId} {f : HT → Nat → HV → HV → CR} (hf : entF Pr D t = .f f) (hi : HOk D g h c w) {x y : HV} {ux uy : Value} (hx : TRep g c x ux) (hy : TRep g c y uy) (hr : f h c x y = .ok v h' c') :
    Eff D g h c w ((Instr.mapEntry t ux uy).run Pr w) v h' c' := by
  unfold entF at hf
  split at hf
  · rename_i et ht
    obtain ⟨kt, hu, hkt⟩ := mapT_some ht
    split at hf
    · rename_i hlive
      obtain ⟨zv, hz1, hz2⟩ := zero_ok (g := g) (c := c) hlive
      injection hf with hf; subst hf
      unfold entE at hr
      cases x <;> try (cases hr; done)
      rename_i k
      cases y <;> try (cases hr; done)
      rename_i ik key
      simp only at hr
      obtain ⟨hk, rfl⟩ := hx
      have ey : uy = .int ik key := hy
      subst ey
      have pair : ∀ {a : HV} {u : Value} {b : Nat}, VRep g c a u → TRep g c (.tup [a, .int .i64 (.ofNat b)]) (.tuple #[u, .int .i64 (b : Int)]) := fun {a u b} ha => ⟨[u, .int .i64 (b : Int)], rfl, rfl, fun i x y hx hy => by
        match i with
        | 0 => simp at hx hy; subst hx; subst hy; exact ha
        | 1 => simp at hx hy; subst hx; subst hy; rfl
        | i + 2 => simp at hx⟩
      split at hr
      · rename_i hc
        have := ikEq_eq hc; subst this
        split at hr
        · rename_i es cl ho
          split at hr
          rotate_left
          · cases hr
          rename_i hcl
          obtain ⟨ms, cl0, hm, hmo⟩ := map_at hi hk.1 (own_body ho)
          obtain ⟨hms, ecl, hlt⟩ := hmo.exact hcl
          have ecl := ecl.symm
          subst ecl
          rcases find_ok key hms 0 with ⟨h1, h2, h3, h4, h5⟩ | ⟨j, v0, m, h1, h2, h3, h4, h5, h6, h7, h8⟩
          · rw [h1, h3] at hr
            simp only at hr
            cases hbc : Nat.beq (Nat.succ cl) uM with
            | true => rw [hbc] at hr; cases hr
            | false =>
            rw [hbc] at hr
            simp only at hr
            refine set_eff (ms := ms) (ms' := ms ++ [⟨keyI key, zv, cl⟩]) hi hk ho hr (.inl ⟨hms.push ⟨rfl, hz2, rfl⟩, rfl, by have := Nat.ne_of_beq_eq_false hbc; omega⟩) ?_ (pair hz2)
            show (Instr.mapEntry t (.map (some (g k).b)) (keyI key)).run Pr w = _
            simp [Instr.mapEntry, run_underlying hu, MapKept.run_getObj_map hm, run_checkInt hkt, run_findInt hkt h5, MapKept.run_setObj_map _ hm, setIf_eq, hz1, goInt]
          · rw [h1, h2] at hr
            simp only at hr
            have hsame : MReps g c es (ms.modify j fun e => { e with key := keyI key }) := by
              have : (ms.modify j fun e => { e with key := keyI key }) = ms := by
                apply List.ext_getElem?
                intro i
                rw [List.getElem?_modify]
                by_cases hij : j = i
                · subst hij
                  rw [h3]
                  simp only [if_true, Option.map_some]
                  congr 1
                  cases m; simp only at h4; subst h4; rfl
                · simp [hij]
              rw [this]; exact hms
            refine set_eff (ms := ms) hi hk ho hr (.inl ⟨hsame, rfl, hlt⟩) ?_ (pair h5)
            show (Instr.mapEntry t (.map (some (g k).b)) (keyI key)).run Pr w = _
            simp only [Nat.zero_add] at h6
            simp [Instr.mapEntry, run_underlying hu, MapKept.run_getObj_map hm, run_checkInt hkt, run_findInt hkt h6, h3, h4, run_keyStays, MapKept.run_setObj_map _ hm, setIf_eq, goInt]
        · cases hr
      · cases hr
    · cases hf
  · cases hf
theorem entSt_ok {t : TypeId} (hi : HOk D g h c w) {x y q : HV} {ux uy uq : Value} (hx : TRep g c x ux) (hy : TRep g c y uy) (hq : TRep g c q uq) (hr : entStE D h c x (.tup [y, q]) = .ok v h' c') :
    ∃ w' g', (Instr.entryStore t ux uy uq).run Pr w = .ok () w' ∧ HOk D g' h' c' w' ∧ Post g (hp D h) c w g' (hp D h') c' w' ∧ v = .und := by
  unfold entStE at hr
  cases x <;> try (cases hr; done)
  rename_i k
  cases y <;> try (cases hr; done)
  rename_i ik n
  cases n with
  | negSucc n => cases hr
  | ofNat born =>
    simp only at hr
    obtain ⟨hk, rfl⟩ := hx
    have ey : uy = .int ik (Int.ofNat born) := hy
    subst ey
    split at hr
    · rename_i hc
      have hqv := live_val hq hc
      split at hr
      · rename_i es cl ho
        split at hr
        rotate_left
        · cases hr
        rename_i hcl
        obtain ⟨ms, cl0, hm, hmo⟩ := map_at hi hk.1 (own_body ho)
        obtain ⟨hms, ecl, hlt⟩ := hmo.exact hcl
        have ecl := ecl.symm
        subst ecl
        split at hr
        · rename_i l hl
          obtain ⟨i, q1, q2⟩ := stamp_ok born q uq hqv hms hl
          have hv : v = .und := by cases hr; rfl
          obtain ⟨z, w', g', r1, r2, r3, r4⟩ := set_eff (r := .ok undef (setB w (g k).b (.map (ms.modify i fun e => { e with val := uq }).toArray cl))) (ms := ms) (z := undef) hi hk ho hr (.inl ⟨q2, rfl, hlt⟩) rfl rfl
          refine ⟨w', g', ?_, r2, r3, hv⟩
          simp only [Result.ok.injEq] at r1
          obtain ⟨_, rfl⟩ := r1
          have q1' : ms.toArray.findIdx? (fun e => (e.born : Int) == (born : Int)) = some i := by simpa using q1
          simp [Instr.entryStore, MapKept.run_getObj_map hm, asInt, asIntOf, q1, q1', MapKept.run_setObj_map _ hm, setIf_eq]
        · cases hr
      · cases hr
    · cases hr
theorem del_ok {t ty : TypeId} {rest : List TypeId} {f : HT → Nat → HV → HV → CR} (hf : delF Pr D t = .f f) (hi : HOk D g h c w) {x y : HV} {ux uy : Value} (hx : TRep g c x ux) (hy : TRep g c y uy) (hr : f h c x y = .ok v h' c') :
    Eff D g h c w ((Builtin.delete_ (t :: rest).toArray ty #[ux, uy]).run Pr w) v h' c' := by
  unfold delF at hf
  split at hf
  · rename_i et ht
    obtain ⟨kt, hu, hkt⟩ := mapT_some ht
    injection hf with hf; subst hf
    have et : TRep g c (.tup []) (.tuple #[]) := ⟨[], rfl, rfl, fun i x y hx hy => by simp at hx⟩
    unfold delE at hr
    cases x <;> try (cases y <;> cases hr; done)
    · rename_i k
      cases y <;> try (cases hr; done)
      rename_i ik key
      simp only at hr
      obtain ⟨hk, rfl⟩ := hx
      have ey : uy = .int ik key := hy
      subst ey
      split at hr
      · rename_i hc
        have := ikEq_eq hc; subst this
        split at hr
        · rename_i es cl ho
          obtain ⟨ms, cl0, hm, hms⟩ := map_at hi hk.1 (own_body ho)
          rcases find_ok2 key hms with ⟨h1, h2, h4, h5, h9⟩ | ⟨j, v0, m, h1, h3, h4, h5, h6, h7, h8⟩
          · refine set_eff (ms := ms) (ms' := ms) hi hk ho hr (by rw [h4]; exact hms) ?_ et
            show (Builtin.delete_ (t :: rest).toArray ty #[.map (some (g k).b), keyI key]).run Pr w = _
            simp [Builtin.delete_, run_underlying hu, MapKept.run_getObj_map hm, run_checkInt hkt, run_findInt hkt h5, MapKept.run_setObj_map _ hm, setIf_eq]
          · refine set_eff (ms := ms) (ms' := ms.eraseIdx j) hi hk ho hr h8 ?_ et
            show (Builtin.delete_ (t :: rest).toArray ty #[.map (some (g k).b), keyI key]).run Pr w = _
            have hj := (List.getElem?_eq_some_iff.1 h3).1
            simp [Builtin.delete_, run_underlying hu, MapKept.run_getObj_map hm, run_checkInt hkt, run_findInt hkt h6, MapKept.run_setObj_map _ hm, setIf_eq, Array.eraseIdxIfInBounds_eq, hj]
        · cases hr
      · cases hr
    · cases y <;> try (cases hr; done)
      rename_i ik key
      simp only at hr
      have e1 : ux = .map none := hx
      subst e1
      have ey : uy = .int ik key := hy
      subst ey
      split at hr
      · rename_i hc
        have := ikEq_eq hc; subst this
        cases hr
        refine Eff.same (z := .tuple #[]) hi ?_ et
        show (Builtin.delete_ (t :: rest).toArray ty #[.map none, keyI key]).run Pr w = _
        simp [Builtin.delete_, run_underlying hu, run_checkInt hkt]
      · cases hr
  · cases hf
theorem clr_ok {t ty : TypeId} {rest : List TypeId} {kt et : TypeId} (ht : Pr.underlying t = some (.map kt et)) (hi : HOk D g h c w) {x y : HV} {ux : Value} (hx : TRep g c x ux) (hr : clrE D h c x y = .ok v h' c') :
    Eff D g h c w ((Builtin.clear_ (t :: rest).toArray ty #[ux]).run Pr w) v h' c' := by
  unfold clrE at hr
  cases x <;> try (cases hr; done)
  · rename_i k
    obtain ⟨hk, rfl⟩ := hx
    simp only at hr
    split at hr
    · rename_i es cl ho
      obtain ⟨ms, cl0, hm, hms⟩ := map_at hi hk.1 (own_body ho)
      refine set_eff (ms := ms) (ms' := []) (cl1 := cl0) hi hk ho hr (hms.clear) ?_ (z := undef) rfl
      simp [Builtin.clear_, run_underlying ht, MapKept.run_getObj_map hm, MapKept.run_setObj_map _ hm, setIf_eq, undef]
    · cases hr
  · have e1 : ux = .map none := hx
    subst e1
    cases hr
    refine Eff.same (z := undef) hi ?_ rfl
    simp [Builtin.clear_, run_underlying ht, undef]
theorem make_ok {t : TypeId} {vs : List HV} (hi : HOk D g h c w) (hr : makeM D h c vs = .ok v h' c') : Eff D g h c w ((Instr.makeMap t none).run Pr w) v h' c' := by
  have hb : BOk (g.new c ⟨w.heap.size, 0, 1, 1⟩) (c + 1) ⟨w.heap.size, 0, 1, 1⟩ (.map [] 0) (w.alloc (.map #[] 0)) := .inr ⟨[], 0, 0, [], rfl, heap_alloc_new w _, ⟨rfl, Nat.le_refl _⟩, .inl ⟨trivial, rfl, by decide⟩⟩
  refine new_eff hi (Ext.alloc w _) (Nat.le_refl _) hb hr (z := .map (some w.heap.size)) ?_ ⟨nm_new g c _ (Nat.le_refl _), by rw [gnew_self]⟩
  simp [Instr.makeMap, newObj, Sem.run]
end
end
end Go.FM
end

section
namespace Go.FM
noncomputable section
variable [Env]
theorem next_none : Extern.allNextRows.lookup cmpName = none := by
  have h : (Extern.allNextRows.lookup cmpName).isNone = true := by decide +kernel
  simpa using h
theorem next_none0 : Extern.allNextRows.lookup "" = none := by
  have h : (Extern.allNextRows.lookup "").isNone = true := by decide +kernel
  simpa using h
theorem gen_none : Extern.allGenericRows.lookup cmpName = none := by
  have h : (Extern.allGenericRows.lookup cmpName).isNone = true := by decide +kernel
  simpa using h
theorem typed_none : Extern.allTypedRows.lookup cmpName = none := by
  have h : (Extern.allTypedRows.lookup cmpName).isNone = true := by decide +kernel
  simpa using h
theorem row_some : Extern.allRows.lookup cmpName = some Extern.BytealgCompare.compare := by kernel_rfl
theorem get_at {n a i : Nat} (h : i < n) : (⟨(bytesOf n a).toArray⟩ : ByteArray)[i]! = UInt8.ofNat (bAt a i) := by
  have h1 : i < (⟨(bytesOf n a).toArray⟩ : ByteArray).size := by simp [ByteArray.size, bytesOf_length]; exact h
  rw [getElem!_pos _ i h1]
  have h2 := bytesOf_get n a i h
  show (bytesOf n a).toArray[i] = _
  have h3 : (bytesOf n a)[i]? = some ((bytesOf n a)[i]'(by rw [bytesOf_length]; exact h)) := List.getElem?_eq_getElem _
  rw [h3] at h2
  simpa using h2
theorem bAt_lt' (a i : Nat) : bAt a i < 256 := Nat.mod_lt _ (by decide)
theorem u8_ne {x y : Nat} (hx : x < 256) (hy : y < 256) : (UInt8.ofNat x != UInt8.ofNat y) = !(Nat.beq x y) := by
  by_cases h : x = y
  · subst h; simp [Nat.beq_refl]
  · have h1 : Nat.beq x y = false := by
      cases hb : Nat.beq x y with
      | false => rfl
      | true => exact absurd (Nat.eq_of_beq_eq_true hb) h
    rw [h1]
    simp only [Bool.not_false, bne_iff_ne, ne_eq]
    intro e
    have := congrArg UInt8.toNat e
    simp only [UInt8.toNat_ofNat'] at this
    omega
theorem u8_lt {x y : Nat} (hx : x < 256) (hy : y < 256) : (UInt8.ofNat x < UInt8.ofNat y) ↔ x < y := by
  rw [UInt8.lt_iff_toNat_lt]
  simp only [UInt8.toNat_ofNat']
  omega
theorem find_congr {α : Type} {p q : α → Bool} : ∀ {l : List α}, (∀ x ∈ l, p x = q x) → l.find? p = l.find? q
  | [], _ => rfl
  | a :: r, h => by
    have h1 := h a (by simp)
    have h2 := find_congr (l := r) fun x hx => h x (by simp [hx])
    simp only [List.find?_cons, h1, h2]
theorem cmp_eq (n a m b : Nat) : Extern.BytealgCompare.cmp ⟨(bytesOf n a).toArray⟩ ⟨(bytesOf m b).toArray⟩ = cmpN n a m b := by
  have s1 : (⟨(bytesOf n a).toArray⟩ : ByteArray).size = n := by simp [ByteArray.size, bytesOf_length]
  have s2 : (⟨(bytesOf m b).toArray⟩ : ByteArray).size = m := by simp [ByteArray.size, bytesOf_length]
  unfold Extern.BytealgCompare.cmp cmpN
  rw [s1, s2]
  have hf : ((List.range (min n m)).find? fun i => (⟨(bytesOf n a).toArray⟩ : ByteArray)[i]! != (⟨(bytesOf m b).toArray⟩ : ByteArray)[i]!) = (List.range (Nat.min n m)).find? fun i => !(Nat.beq (bAt a i) (bAt b i)) := by
    refine find_congr fun i hi => ?_
    have hi : i < min n m := List.mem_range.1 hi
    rw [get_at (show i < n by omega), get_at (show i < m by omega), u8_ne (bAt_lt' _ _) (bAt_lt' _ _)]
  rw [hf]
  cases hq : (List.range (Nat.min n m)).find? fun i => !(Nat.beq (bAt a i) (bAt b i)) with
  | none =>
    simp only
    have e1 : Nat.blt n m = decide (n < m) := by rw [Bool.eq_iff_iff]; simp [Nat.blt_eq]
    have e2 : Nat.blt m n = decide (m < n) := by rw [Bool.eq_iff_iff]; simp [Nat.blt_eq]
    simp [e1, e2]
  | some i =>
    have hi : i < min n m := List.mem_range.1 (List.mem_of_find?_eq_some hq)
    simp only
    rw [get_at (show i < n by omega), get_at (show i < m by omega)]
    have e1 : Nat.blt (bAt a i) (bAt b i) = decide (bAt a i < bAt b i) := by rw [Bool.eq_iff_iff]; simp [Nat.blt_eq]
    simp [e1, u8_lt (bAt_lt' a i) (bAt_lt' b i)]
theorem compare_eq (a b : Value) : Extern.BytealgCompare.compare #[a, b] = (do pure (goInt (Extern.BytealgCompare.cmp (← Extern.Bytes.bytesOf a) (← Extern.Bytes.bytesOf b)))) := rfl
section
variable {Pr : Program} {g : Gm} {c : Nat} {w : World}
theorem cmp_run {f : FuncId} (h : isCmp Pr f = true) {x y : HV} {u v : Value} (hx : TRep g c x u) (hy : TRep g c y v) (hl : cmpV x y ≠ .dead) : ∃ z, (callFunc f #[u, v]).run Pr w = .ok (.value z) w ∧ TRep g c (cmpV x y) z := by
  unfold isCmp at h
  split at h
  · rename_i fn hf
    simp only [Bool.and_eq_true, beq_iff_eq] at h
    obtain ⟨h1, h2, h3⟩ := h
    unfold cmpV at hl ⊢
    cases x <;> try (cases y <;> exact absurd rfl hl)
    rename_i n a
    cases y <;> try exact absurd rfl hl
    rename_i m b
    obtain ⟨_, rfl⟩ := hx
    obtain ⟨_, rfl⟩ := hy
    refine ⟨.int .i64 (cmpN n a m b), ?_, rfl⟩
    have hname : (fn.name == "runtime.NumGoroutine") = false := by rw [h2]; decide
    have hname2 : ¬ fn.name = "runtime.NumGoroutine" := by simpa using hname
    have hmark : ∀ (w : World), (mark (.extern f) : Sem Unit).run Pr w = .ok () w := fun w => rfl
    have hn : Extern.findNext fn = none := by simp [Extern.findNext, h2, h3, next_none, next_none0]
    have he : Extern.find fn = some Extern.BytealgCompare.compare := by simp [Extern.find, h2, gen_none, typed_none, row_some]
    have hb : fn.body = none := by simpa using h1
    simp [callFunc, hf, hname2, hb, hn, he, hmark, compare_eq, Extern.Bytes.bytesOf, strOf, cmp_eq, goInt]
  · cases h
end
end
end Go.FM
end

section
namespace Go.FM
noncomputable section
variable [Env]
section
variable {Pr : Program} {D : Nat} {w w' : World} {g g' : Gm} {c c' : Nat} {nt gl : Nat} {reg : List Nat} {t : L} {s : S} {a : Act} {cl : Cl} {o : Oper} {k : K}
theorem compBi_ok {cc : Call} {b : Builtin} (ho : o.op = .call cc) (hc : cc.callee = .builtin b)
    (h : ∀ w, exec cl (compBi Pr D gl reg (dstP gl o.dst) b cc.argTypes.toList cc.args.toList) k t s ≠ .x w) :
    Good Pr D gl reg cl o t s k (compBi Pr D gl reg (dstP gl o.dst) b cc.argTypes.toList cc.args.toList) := by
  have bi : ∀ (a : Act) (w : World), (execOp a.eval o).run Pr w = (builtin b cc.argTypes o.type (cc.args.map fun | .const _ => true | _ => false) (cc.args.map a.eval)).run Pr w := fun a w => by
    simp [execOp, ho, Go.resolve, hc, invoke]
    rfl
  have ts : ∀ l, cc.argTypes.toList = l → cc.argTypes = l.toArray := fun l h => by rw [← h]
  have as : ∀ l, cc.args.toList = l → cc.args = l.toArray := fun l h => by rw [← h]
  unfold compBi at h ⊢
  split at h
  ·
    rename_i ty rest x e1 e2
    have e1 := ts _ e1
    have e2 := as _ e2
    split at h
    · rename_i kt et hmap
      refine good_pure (why := 45) rfl h fun hl a w g hs hi => ?_
      obtain ⟨u, h1, h2⟩ := lenM_ok (ty := o.type) (rest := rest) hmap hi (hs.get ho (x := x) (by simp [Op.operands, Call.operands, hc, e2])) hl
      refine ⟨u, ?_, h2⟩
      rw [bi, e1, e2]
      simp [builtin, h1]
    cases hf : lenF Pr ty with
    | no => rw [hf] at h; exact absurd rfl (h 20)
    | f f =>
      rw [hf] at h
      refine good_pure (why := 41) rfl h fun hl a w g hs hi => ?_
      obtain ⟨u, h1, h2⟩ := lenF_ok (ty := o.type) (rest := rest) (w := w) hf (hs.get ho (x := x) (by simp [Op.operands, Call.operands, hc, e2])) hl
      refine ⟨u, ?_, h2⟩
      rw [bi, e1, e2]
      simp [builtin, h1]
  ·
    rename_i ty rest x y e1 e2
    have e1 := ts _ e1
    have e2 := as _ e2
    cases hf : delF Pr D ty with
    | no => rw [hf] at h; exact absurd rfl (h 24)
    | f f =>
      rw [hf] at h
      refine good_eff rfl rfl h fun v h' c' hr a w g hs hi => ?_
      refine ⟨_, del_ok (ty := o.type) (rest := rest) hf hi (hs.get ho (x := x) (by simp [Op.operands, Call.operands, hc, e2])) (hs.get ho (x := y) (by simp [Op.operands, Call.operands, hc, e2])) hr, fun u w' h1 => ?_⟩
      rw [bi, e1, e2]
      simp [builtin, h1]
  ·
    rename_i ty t2 x y e1 e2
    have e1 := ts _ e1
    have e2 := as _ e2
    cases hf : appendF Pr D ty t2 with
    | no => rw [hf] at h; exact absurd rfl (h 24)
    | f f =>
      rw [hf] at h
      refine good_eff rfl rfl h fun v h' c' hr a w g hs hi => ?_
      refine ⟨_, append_ok (ty := o.type) hf hi (hs.get ho (x := x) (by simp [Op.operands, Call.operands, hc, e2])) (hs.get ho (x := y) (by simp [Op.operands, Call.operands, hc, e2])) hr, fun u w' h1 => ?_⟩
      rw [bi, e1, e2]
      simp [builtin, h1]
  ·
    rename_i ty rest x y e1 e2
    have e1 := ts _ e1
    have e2 := as _ e2
    cases hf : copyF Pr D ty with
    | no => rw [hf] at h; exact absurd rfl (h 24)
    | f f =>
      rw [hf] at h
      refine good_eff rfl rfl h fun v h' c' hr a w g hs hi => ?_
      refine ⟨_, copy_ok (ty := o.type) (rest := rest) hf hi (hs.get ho (x := x) (by simp [Op.operands, Call.operands, hc, e2])) (hs.get ho (x := y) (by simp [Op.operands, Call.operands, hc, e2])) hr, fun u w' h1 => ?_⟩
      rw [bi, e1, e2]
      simp [builtin, h1]
  ·
    rename_i ty rest x e1 e2
    have e1 := ts _ e1
    have e2 := as _ e2
    split at h
    · rename_i kt et hmap
      refine good_eff rfl rfl h fun v h' c' hr a w g hs hi => ?_
      refine ⟨_, clr_ok (ty := o.type) (rest := rest) hmap hi (hs.get ho (x := x) (by simp [Op.operands, Call.operands, hc, e2])) hr, fun u w' h1 => ?_⟩
      rw [bi, e1, e2]
      simp [builtin, h1]
    cases hf : clearF Pr D ty with
    | no => rw [hf] at h; exact absurd rfl (h 24)
    | f f =>
      rw [hf] at h
      refine good_eff rfl rfl h fun v h' c' hr a w g hs hi => ?_
      refine ⟨_, clear_ok (ty := o.type) (rest := rest) hf hi (hs.get ho (x := x) (by simp [Op.operands, Call.operands, hc, e2])) hr, fun u w' h1 => ?_⟩
      rw [bi, e1, e2]
      simp [builtin, h1]
  ·
    rename_i l x y e2
    have e2 := as _ e2
    refine good_pure (why := 42) rfl h fun hl a w g hs hi => ?_
    obtain ⟨u, h1, h2⟩ := minV_ok (Pr := Pr) (w := w) (hs.get ho (x := x) (by simp [Op.operands, Call.operands, hc, e2])) (hs.get ho (x := y) (by simp [Op.operands, Call.operands, hc, e2])) hl cc.argTypes o.type
    refine ⟨u, ?_, h2⟩
    rw [bi, e2]
    simp [builtin, h1]
  ·
    rename_i l x y e2
    have e2 := as _ e2
    refine good_pure (why := 42) rfl h fun hl a w g hs hi => ?_
    obtain ⟨u, h1, h2⟩ := maxV_ok (Pr := Pr) (w := w) (hs.get ho (x := x) (by simp [Op.operands, Call.operands, hc, e2])) (hs.get ho (x := y) (by simp [Op.operands, Call.operands, hc, e2])) hl cc.argTypes o.type
    refine ⟨u, ?_, h2⟩
    rw [bi, e2]
    simp [builtin, h1]
  ·
    rename_i l x e2
    have e2 := as _ e2
    refine good_pure (why := 41) rfl h fun hl a w g hs hi => ?_
    obtain ⟨u, h1, h2⟩ := realV_ok (Pr := Pr) (w := w) (hs.get ho (x := x) (by simp [Op.operands, Call.operands, hc, e2])) hl cc.argTypes o.type
    refine ⟨u, ?_, h2⟩
    rw [bi, e2]
    simp [builtin, h1]
  ·
    rename_i l x e2
    have e2 := as _ e2
    refine good_pure (why := 41) rfl h fun hl a w g hs hi => ?_
    obtain ⟨u, h1, h2⟩ := imagV_ok (Pr := Pr) (w := w) (hs.get ho (x := x) (by simp [Op.operands, Call.operands, hc, e2])) hl cc.argTypes o.type
    refine ⟨u, ?_, h2⟩
    rw [bi, e2]
    simp [builtin, h1]
  ·
    rename_i l x y e2
    have e2 := as _ e2
    refine good_pure (why := 42) rfl h fun hl a w g hs hi => ?_
    obtain ⟨u, h1, h2⟩ := cpxOf_ok (Pr := Pr) (w := w) (hs.get ho (x := x) (by simp [Op.operands, Call.operands, hc, e2])) (hs.get ho (x := y) (by simp [Op.operands, Call.operands, hc, e2])) hl cc.argTypes o.type
    refine ⟨u, ?_, h2⟩
    rw [bi, e2]
    simp [builtin, h1]
  · exact absurd rfl (h 27)
theorem nilCheck_ok {x : HV} {v : Value} (hx : TRep g c x v) (hl : nilCheck x ≠ .dead) {y : Operand} (ho : o.op = .nilCheck y) {ρ : Operand → Value} (hv : ρ y = v) : (execOp ρ o).run Pr w = .ok (.value v) w ∧ TRep g c (nilCheck x) v := by
  cases x <;> try exact absurd rfl hl
  · rename_i k off
    have h2 := hx
    obtain ⟨_, e⟩ := hx
    subst e
    exact ⟨by simp [execOp, ho, hv], h2⟩
  · rename_i f caps
    have h2 := hx
    obtain ⟨_, e⟩ := hx
    subst e
    exact ⟨by simp [execOp, ho, hv], h2⟩
theorem compOp_ok (hcl : ClOk Pr D cl)
    (h : ∀ w, exec cl (compOp Pr D gl reg o.dst o.op) k t s ≠ .x w) : Good Pr D gl reg cl o t s k (compOp Pr D gl reg o.dst o.op) := by
  cases ho : o.op <;> rw [ho] at h <;> try exact absurd rfl (h 31)
  case move x =>
    refine good_pure (why := 41) rfl h fun hl a w g hs hi => ⟨a.eval x, ?_, hs.get ho (x := x) (by simp [Op.operands])⟩
    simp [execOp, ho]
  case assign x =>
    refine good_pure (why := 41) rfl h fun hl a w g hs hi => ⟨a.eval x, ?_, hs.get ho (x := x) (by simp [Op.operands])⟩
    simp [execOp, ho]
  case pick x y z =>
    refine good_pure (why := 43) rfl h fun hl a w g hs hi => ?_
    obtain ⟨b, h1, h2⟩ := pickV_ok (hs.get ho (x := x) (by simp [Op.operands])) (hs.get ho (x := y) (by simp [Op.operands])) (hs.get ho (x := z) (by simp [Op.operands])) hl
    refine ⟨_, ?_, h2⟩
    simp [execOp, ho, h1, asBool]
  case alloc e =>
    cases hf : allocF Pr D e with
    | no => simp only [compOp] at h; rw [hf] at h; exact absurd rfl (h 25)
    | f f =>
      simp only [compOp] at h ⊢
      rw [hf] at h ⊢
      refine good_eff rfl rfl h fun v h' c' hr a w g hs hi => ⟨_, alloc_ok hf hi hr, fun u w' h1 => ?_⟩
      simp [execOp, ho, h1]
  case box e x =>
    cases hf : boxF Pr D e with
    | no => simp only [compOp] at h; rw [hf] at h; exact absurd rfl (h 25)
    | f f =>
      simp only [compOp] at h ⊢
      rw [hf] at h ⊢
      refine good_eff rfl rfl h fun v h' c' hr a w g hs hi => ⟨_, box_ok hf hi (hs.get ho (x := x) (by simp [Op.operands])) hr, fun u w' h1 => ?_⟩
      simp [execOp, ho, h1]
  case build ty ps =>
    cases hf : buildF Pr ty (ps.toList.map (·.1)) with
    | no => simp only [compOp] at h; rw [hf] at h; exact absurd rfl (h 23)
    | f f =>
      simp only [compOp] at h ⊢
      rw [hf] at h ⊢
      refine good_pure (why := 44) rfl h fun hl a w g hs hi => ?_
      have hx : TReps g s.c (evs (ps.toList.map fun p => opnd gl reg p.2) t s.f) (ps.toList.map fun p => a.eval p.2) := by
        have := opnds_ok (l := ps.toList.map (·.2)) fun x hx => hs.get ho (x := x) (by simpa [Op.operands] using hx)
        simpa [opnds, List.map_map, Function.comp_def] using this
      obtain ⟨u, h1, h2⟩ := buildF_ok (w := w) hf hx hl
      refine ⟨u, ?_, h2⟩
      have e : (ps.map fun p : Nat × Operand => (p.1, a.eval p.2)) = (ps.toList.map fun p => (p.1, a.eval p.2)).toArray := by rw [← Array.toList_map]
      simp only [execOp, ho]
      rw [show (fun x : Nat × Operand => match x with | (i, x) => (i, a.eval x)) = fun p => (p.1, a.eval p.2) from rfl, e]
      exact v_run h1
  case buildSlice ty len ps =>
    cases hf : buildSliceF Pr D ty len (ps.toList.map (·.1)) with
    | no => simp only [compOp] at h; rw [hf] at h; exact absurd rfl (h 25)
    | f f =>
      simp only [compOp] at h ⊢
      rw [hf] at h ⊢
      refine good_eff rfl rfl h fun v h' c' hr a w g hs hi => ?_
      have hx : TReps g s.c (evs (ps.toList.map fun p => opnd gl reg p.2) t s.f) (ps.toList.map fun p => a.eval p.2) := by
        have := opnds_ok (l := ps.toList.map (·.2)) fun x hx => hs.get ho (x := x) (by simpa [Op.operands] using hx)
        simpa [opnds, List.map_map, Function.comp_def] using this
      refine ⟨_, buildSlice_ok hf hi hx hr, fun u w' h1 => ?_⟩
      have e : (ps.map fun p : Nat × Operand => (p.1, a.eval p.2)) = (ps.toList.map fun p => (p.1, a.eval p.2)).toArray := by rw [← Array.toList_map]
      simp only [execOp, ho]
      rw [show (fun x : Nat × Operand => match x with | (i, x) => (i, a.eval x)) = fun p => (p.1, a.eval p.2) from rfl, e]
      exact v_run h1
  case load ty x =>
    cases hf : loadF Pr D ty with
    | no => simp only [compOp] at h; rw [hf] at h; exact absurd rfl (h 26)
    | p f => exact (loadF_not hf).elim
    | f f =>
      simp only [compOp] at h ⊢
      rw [hf] at h ⊢
      obtain ⟨n, b, h1, h2, rfl⟩ := loadF_inv hf
      refine good_pure (why := 45) rfl h fun hl a w g hs hi => ?_
      obtain ⟨A, hA, u, h3, h4⟩ := load_ok h1 h2 hi (hs.get ho (x := x) (by simp [Op.operands])) hl
      refine ⟨u, ?_, TRep.of_val h4⟩
      simp only [execOp, ho]
      exact v_run (by simp [Instr.loadAt, Instr.sureAddr, hA, h3])
  case store ty x y =>
    cases hf : storeF Pr D ty with
    | no => simp only [compOp] at h; rw [hf] at h; exact absurd rfl (h 24)
    | f f =>
      simp only [compOp] at h ⊢
      rw [hf] at h ⊢
      obtain ⟨v, h', c', hr, hd', h2⟩ := finC_some h
      refine ⟨v, h', c', hd', h2, fun a w g hs hi next Q hn => ?_, fun e => by cases e⟩
      obtain ⟨w', g', q1, q2, q3, rfl⟩ := store_ok hf hi (hs.get ho (x := x) (by simp [Op.operands])) (hs.get ho (x := y) (by simp [Op.operands])) hr
      unfold Oper.wp
      have e : (execOp a.eval o).run Pr w = .ok .skip w' := by simp [execOp, ho, q1]
      rw [e]
      exact hn undef _ g' q2 q3 rfl
  case nilCheck x =>
    refine good_pure (why := 41) rfl h fun hl a w g hs hi => ⟨a.eval x, nilCheck_ok (hs.get ho (x := x) (by simp [Op.operands])) hl ho rfl⟩
  case binOp op ty x y z =>
    cases hf : binG Pr op ty x y with
    | no => simp only [compOp] at h; rw [hf] at h; exact absurd rfl (h 21)
    | f f =>
      simp only [compOp] at h ⊢
      rw [hf] at h ⊢
      refine good_pure (why := 42) rfl h fun hl a w g hs hi => ?_
      obtain ⟨u, ⟨h1, h2⟩, h3⟩ := binG_ok (w := w) hf (hs.get ho (x := x) (by simp [Op.operands])) (hs.get ho (x := y) (by simp [Op.operands])) hl
      exact ⟨u, by simp [execOp, ho, h1, h2], h3⟩
  case unOp op ty x =>
    refine good_pure (why := 41) rfl h fun hl a w g hs hi => ?_
    obtain ⟨u, h1, h2⟩ := unV_ok (Pr := Pr) (w := w) (hs.get ho (x := x) (by simp [Op.operands])) hl
    exact ⟨u, by simp [execOp, ho, h1], h2⟩
  case convert src dst x =>
    simp only [compOp] at h ⊢
    cases hf : convF Pr D src dst with
    | no => rw [hf] at h; exact absurd rfl (h 26)
    | p f =>
      rw [hf] at h
      refine good_pure (why := 41) rfl h fun hl a w g hs hi => ?_
      obtain ⟨u, h1, h2⟩ := (convF_ok (src := src) (dst := dst) hi (hs.get ho (x := x) (by simp [Op.operands]))).1 f hf hl
      refine ⟨u, ?_, h2⟩
      simp only [execOp, ho]
      exact v_run h1
    | f f =>
      rw [hf] at h
      refine good_pure (why := 45) rfl h fun hl a w g hs hi => ?_
      obtain ⟨u, h1, h2⟩ := (convF_ok (src := src) (dst := dst) hi (hs.get ho (x := x) (by simp [Op.operands]))).2 f hf hl
      refine ⟨u, ?_, h2⟩
      simp only [execOp, ho]
      exact v_run h1
  case makeFunc fn first caps =>
    cases fn <;> try exact absurd rfl (h 31)
    rename_i f
    simp only [compOp] at h ⊢
    split at h
    · rename_i he
      rw [if_pos he]
      have he : first = #[] := by simpa [Array.isEmpty_iff] using he
      refine good_pure (why := 44) rfl h fun hl a w g hs hi => ?_
      refine ⟨.func (.func f) #[] (caps.toList.map a.eval).toArray, ?_, makeFnF_ok (opnds_ok fun y hy => hs.get ho (x := y) (by simp [Op.operands] at hy ⊢; simp [hy])) hl⟩
      simp only [execOp, ho, he]
      exact v_run (by simp [Instr.makeFunc, ← Array.toList_map])
    · exact absurd rfl (h 28)
  case makeSlice ty l cc =>
    cases hf : makeSliceF Pr D ty with
    | no => simp only [compOp] at h; rw [hf] at h; exact absurd rfl (h 25)
    | f f =>
      simp only [compOp] at h ⊢
      rw [hf] at h ⊢
      refine good_eff rfl rfl h fun v h' c' hr a w g hs hi => ⟨_, makeSlice_ok hf hi (hs.get ho (x := l) (by simp [Op.operands])) (hs.get ho (x := cc) (by simp [Op.operands])) hr, fun u w' h1 => ?_⟩
      simp [execOp, ho, h1]
  case makeMap ty res =>
    cases res with
    | some r => exact absurd rfl (h 31)
    | none =>
      refine good_eff rfl rfl h fun v h' c' hr a w g hs hi => ⟨_, make_ok (Pr := Pr) (t := ty) hi hr, fun u w' h1 => ?_⟩
      simp only [execOp, ho, Option.map_none]
      exact v_run h1
  case lookup ty x y ok =>
    cases hf : lookupF Pr D ty ok with
    | no => simp only [compOp] at h; rw [hf] at h; exact absurd rfl (h 26)
    | p f => exact (lookupF_not hf).elim
    | f f =>
      simp only [compOp] at h ⊢
      rw [hf] at h ⊢
      refine good_pure (why := 45) rfl h fun hl a w g hs hi => ?_
      obtain ⟨u, h1, h2⟩ := lookup_ok hf hi (hs.get ho (x := x) (by simp [Op.operands])) (hs.get ho (x := y) (by simp [Op.operands])) hl
      exact ⟨u, by simp [execOp, ho, h1], h2⟩
  case mapUpdate ty x y z =>
    cases hf : updF Pr D ty with
    | no => simp only [compOp] at h; rw [hf] at h; exact absurd rfl (h 24)
    | f f =>
      simp only [compOp] at h ⊢
      rw [hf] at h ⊢
      obtain ⟨v, h', c', hr, hd', h2⟩ := finC_some h
      refine ⟨v, h', c', hd', h2, fun a w g hs hi next Q hn => ?_, fun e => by cases e⟩
      obtain ⟨w', g', q1, q2, q3, rfl⟩ := upd_ok hf hi (hs.get ho (x := x) (by simp [Op.operands])) (hs.get ho (x := y) (by simp [Op.operands])) (hs.get ho (x := z) (by simp [Op.operands])) hr
      unfold Oper.wp
      have e : (execOp a.eval o).run Pr w = .ok .skip w' := by simp [execOp, ho, q1]
      rw [e]
      exact hn undef _ g' q2 q3 rfl
  case mapEntry ty x y =>
    cases hf : entF Pr D ty with
    | no => simp only [compOp] at h; rw [hf] at h; exact absurd rfl (h 24)
    | f f =>
      simp only [compOp] at h ⊢
      rw [hf] at h ⊢
      refine good_eff rfl rfl h fun v h' c' hr a w g hs hi => ⟨_, ent_ok hf hi (hs.get ho (x := x) (by simp [Op.operands])) (hs.get ho (x := y) (by simp [Op.operands])) hr, fun u w' h1 => ?_⟩
      simp [execOp, ho, h1]
  case entryStore ty x y z =>
    obtain ⟨v, h', c', hr, hd', h2⟩ := finC_some h
    refine ⟨v, h', c', hd', h2, fun a w g hs hi next Q hn => ?_, fun e => by cases e⟩
    obtain ⟨w', g', q1, q2, q3, rfl⟩ := entSt_ok (Pr := Pr) (t := ty) hi (hs.get ho (x := x) (by simp [Op.operands])) (hs.get ho (x := y) (by simp [Op.operands])) (hs.get ho (x := z) (by simp [Op.operands])) hr
    unfold Oper.wp
    have e : (execOp a.eval o).run Pr w = .ok .skip w' := by simp [execOp, ho, q1]
    rw [e]
    exact hn undef _ g' q2 q3 rfl
  case slice ty x lo hi mx =>
    cases mx with
    | none =>
      simp only [compOp] at h ⊢
      split at h
      · rename_i e hu
        cases hsz : sizeT Pr e with
        | none => rw [hsz] at h; exact absurd rfl (h 22)
        | some n =>
          rw [hsz] at h
          refine good_pure (why := 45) rfl h fun hl a w g hs hi' => ?_
          obtain ⟨u, h1, h2⟩ := sliceH_ok (Pr := Pr) (w := w) hu hsz hi' (hs.get ho (x := x) (by simp [Op.operands])) (optG_ok fun y hy => hs.get ho (x := y) (by simp [Op.operands, hy])) (hiG_ok fun y hy => hs.get ho (x := y) (by simp [Op.operands, hy])) hl
          refine ⟨u, ?_, h2⟩
          simp only [execOp, ho, Option.map_none]
          exact v_run h1
      cases hf : sliceF Pr hi.isSome ty with
      | no => rw [hf] at h; exact absurd rfl (h 22)
      | f f =>
        rw [hf] at h
        refine good_pure (why := 43) rfl h fun hl a w g hs hi' => ?_
        obtain ⟨u, h1, h2⟩ := sliceF_ok (w := w) hf (hs.get ho (x := x) (by simp [Op.operands])) (optG_ok fun y hy => hs.get ho (x := y) (by simp [Op.operands, hy])) (hiG_ok fun y hy => hs.get ho (x := y) (by simp [Op.operands, hy])) hl
        refine ⟨u, ?_, h2⟩
        simp only [execOp, ho, Option.map_none]
        exact v_run h1
    | some mx =>
      simp only [compOp] at h ⊢
      split at h
      · rename_i e hu
        split at h
        · rename_i n hn
          split at h
          · rename_i hh
            cases hi with
            | none => cases hh
            | some hi =>
              refine good_pure (why := 44) rfl h fun hl a w g hs hi' => ?_
              obtain ⟨u, h1, h2⟩ := clip_ok (Pr := Pr) (w := w) hu hn (hs.get ho (x := x) (by simp [Op.operands])) (optG_ok fun y hy => hs.get ho (x := y) (by simp [Op.operands, hy])) (hs.get ho (x := hi) (by simp [Op.operands])) (hs.get ho (x := mx) (by simp [Op.operands])) hl
              refine ⟨u, ?_, h2⟩
              simp only [execOp, ho, Option.map_some]
              exact v_run h1
          · exact absurd rfl (h 29)
        · exact absurd rfl (h 29)
      · exact absurd rfl (h 29)
  case fieldAddr ty x i =>
    cases hf : fieldAddrF Pr ty i with
    | no => simp only [compOp] at h; rw [hf] at h; exact absurd rfl (h 20)
    | f f =>
      simp only [compOp] at h ⊢
      rw [hf] at h ⊢
      refine good_pure (why := 41) rfl h fun hl a w g hs hi => ?_
      obtain ⟨u, h1, h2⟩ := fieldAddrF_ok (w := w) hf (hs.get ho (x := x) (by simp [Op.operands])) hl
      exact ⟨u, by simp [execOp, ho, h1], h2⟩
  case field ty x i =>
    cases hf : fieldF Pr ty i with
    | no => simp only [compOp] at h; rw [hf] at h; exact absurd rfl (h 20)
    | f f =>
      simp only [compOp] at h ⊢
      rw [hf] at h ⊢
      refine good_pure (why := 41) rfl h fun hl a w g hs hi => ?_
      obtain ⟨u, h1, h2⟩ := fieldF_ok (w := w) hf (hs.get ho (x := x) (by simp [Op.operands])) hl
      exact ⟨u, by simp [execOp, ho, h1], h2⟩
  case indexAddr ty x y =>
    cases hf : indexAddrF Pr ty with
    | no => simp only [compOp] at h; rw [hf] at h; exact absurd rfl (h 21)
    | f f =>
      simp only [compOp] at h ⊢
      rw [hf] at h ⊢
      refine good_pure (why := 42) rfl h fun hl a w g hs hi => ?_
      obtain ⟨u, h1, h2⟩ := indexAddrF_ok (w := w) hf (hs.get ho (x := x) (by simp [Op.operands])) (hs.get ho (x := y) (by simp [Op.operands])) hl
      exact ⟨u, by simp [execOp, ho, h1], h2⟩
  case index ty x y =>
    cases hf : indexF Pr ty with
    | no => simp only [compOp] at h; rw [hf] at h; exact absurd rfl (h 21)
    | f f =>
      simp only [compOp] at h ⊢
      rw [hf] at h ⊢
      refine good_pure (why := 42) rfl h fun hl a w g hs hi => ?_
      obtain ⟨u, h1, h2⟩ := indexF_ok (w := w) hf (hs.get ho (x := x) (by simp [Op.operands])) (hs.get ho (x := y) (by simp [Op.operands])) hl
      exact ⟨u, by simp [execOp, ho, h1], h2⟩
  case extract x i =>
    refine good_pure (why := 41) rfl h fun hl a w g hs hi => ?_
    obtain ⟨u, h1, h2⟩ := extractV_ok (Pr := Pr) (w := w) (hs.get ho (x := x) (by simp [Op.operands])) hl
    exact ⟨u, by simp [execOp, ho, h1], h2⟩
  case call cc =>
    simp only [compOp] at h ⊢
    split at h
    · rename_i fn hc
      split at h
      · rename_i hcmp
        rw [if_pos hcmp]
        unfold cmpOp at h ⊢
        split at h
        · rename_i x y e2
          have e3 : cc.args = #[x, y] := by
            have : cc.args.toList.toArray = [x, y].toArray := by rw [e2]
            simpa using this
          refine good_pure (why := 42) rfl h fun hl a w g hs hi => ?_
          obtain ⟨z, h1, h2⟩ := cmp_run (w := w) hcmp (hs.get ho (x := x) (by simp [Op.operands, Call.operands, hc, e3])) (hs.get ho (x := y) (by simp [Op.operands, Call.operands, hc, e3])) hl
          refine ⟨z, ?_, h2⟩
          have hev : a.eval (.func fn) = .func (.func fn) #[] #[] := rfl
          simp [execOp, ho, Go.resolve, hc, hev, Deferred.ofValue, invoke, e3, h1]
        · exact absurd rfl (h 36)
      rename_i hncmp
      rw [if_neg hncmp]
      obtain ⟨v, h', c', hr, hd', h2⟩ := finC_some (show ∀ w, finC (dstP gl o.dst) (cl fn (evs (opnds gl reg cc.args.toList) t s.f) s.h s.c) k t s ≠ .x w from h)
      obtain ⟨q1, q2⟩ := hcl _ _ _ _ _ _ _ hr hd'
      refine ⟨v, h', c', hd', h2, call_wp ho q1 q2 fun a g hs => ⟨#[], cc.args.toList.map a.eval, ⟨_, hc, rfl⟩, by simp [← Array.toList_map], opnds_ok fun y hy => hs.get ho (x := y) (by simp [Op.operands, Call.operands, hc] at hy ⊢; simp [hy])⟩, fun e => by cases e⟩
    · rename_i v' hne hc
      obtain ⟨v, h', c', hr, hd', h2⟩ := finC_some (show ∀ w, finC (dstP gl o.dst) (calv cl ((opnd gl reg v').ev t s.f) (evs (opnds gl reg cc.args.toList) t s.f) s.h s.c) k t s ≠ .x w from h)
      have he : exec cl (.calv (dstP gl o.dst) (opnd gl reg v') (opnds gl reg cc.args.toList)) k t s = finC (dstP gl o.dst) (calv cl ((opnd gl reg v').ev t s.f) (evs (opnds gl reg cc.args.toList) t s.f) s.h s.c) k t s := rfl
      unfold calv at hr
      split at hr
      · rename_i fn caps hv
        obtain ⟨q1, q2⟩ := hcl _ _ _ _ _ _ _ hr hd'
        refine ⟨v, h', c', hd', he.trans h2, call_wp ho q1 q2 fun a g hs => ?_, fun e => by cases e⟩
        have hx := hs.get ho (x := v') (by simp [Op.operands, Call.operands, hc])
        rw [hv] at hx
        obtain ⟨c1, c2⟩ := hx
        refine ⟨_, cc.args.toList.map a.eval ++ caps.map fun p => Value.pointer (some (addrOf g p.1 p.2)), ⟨_, hc, c2⟩, by simp, ?_⟩
        have h1 := opnds_ok (l := cc.args.toList) fun y hy => hs.get ho (x := y) (by simp [Op.operands, Call.operands, hc] at hy ⊢; simp [hy])
        refine ⟨by rw [List.length_append, List.length_append, h1.1]; simp, fun i x u hx hu => ?_⟩
        rw [List.getElem?_append] at hx hu
        rw [h1.1] at hu
        split at hx
        · rename_i hlt
          rw [if_pos hlt] at hu
          exact h1.2 i x u hx hu
        · rename_i hlt
          rw [if_neg hlt] at hu
          simp only [List.getElem?_map, Option.map_eq_some_iff] at hx hu
          obtain ⟨p, hp, rfl⟩ := hx
          obtain ⟨p', hp', rfl⟩ := hu
          rw [hp] at hp'
          simp only [Option.some.injEq] at hp'; subst hp'
          exact ⟨c1 p (List.mem_of_getElem? hp), rfl⟩
      · cases hr
    · rename_i b hc
      exact compBi_ok ho hc h
    · exact absurd rfl (h 30)
theorem compOp_nogrd (gl : Nat) (reg : List Nat) (dst : Option Nat) (op : Op) {q : G} {want : Bool} {st : P} {x : FOp} : compOp Pr D gl reg dst op ≠ .grd q want st x := by
  cases op <;> simp only [compOp, oF1, oF2, oF3, oFN, oE2, oAN, oH1, compBi, cmpOp] <;> intro h <;> (try cases h) <;> (repeat (first | (split at h) | cases h))
end
end
end Go.FM
end

section
namespace Go.FM
noncomputable section
variable [Env]
section
variable {Pr : Program} {D : Nat} {w w' : World} {g g' : Gm} {c c' : Nat} {nt gl : Nat} {reg : List Nat} {t : L} {f : F} {s : S} {a : Act} {cl : Cl} {o : Oper} {k : K} {ops : Array Oper}
def GuardIs (ops : Array Oper) (gl : Nat) (reg : List Nat) (t : L) (f : F) (o : Oper) (b : Bool) : Prop := match o.guard with
  | none => b = true
  | some (j, want) => ∃ x, (ops[j]?).bind (·.dst) = some x ∧ wants ((opnd gl reg (.tmp x)).ev t f) want = some b
theorem wants_ok {x : HV} {want b : Bool} {j q : Nat} (hd : (ops[j]?).bind (·.dst) = some q) (hx : TRep g c x (a.tmps.getD q undef)) (h : wants x want = some b) : (yielded ops a.tmps j == some want) = b := by
  have hy : yielded ops a.tmps j = match a.tmps[q]? with | some (.bool b) => some b | _ => none := by
    unfold yielded
    rw [hd]
    rfl
  cases x <;> try cases h
  · rename_i v
    have e : a.tmps.getD q undef = .bool v := hx
    have hsz : a.tmps[q]? = some (.bool v) := by
      rw [Array.getD_eq_getD_getElem?] at e
      cases hq : a.tmps[q]? with
      | none => rw [hq] at e; simp [undef] at e
      | some u => rw [hq] at e; simp at e; rw [e]
    rw [hy, hsz]
    cases v <;> cases want <;> rfl
  · have e : a.tmps.getD q undef = undef := hx
    have hn : yielded ops a.tmps j = none := by
      rw [hy]
      rw [Array.getD_eq_getD_getElem?] at e
      cases hq : a.tmps[q]? with
      | none => rfl
      | some u => rw [hq] at e; simp at e; rw [e]; rfl
    rw [hn]
    cases want <;> rfl
theorem guard_ok {b : Bool} (hg : GuardIs ops gl reg t f o b) (hx : ∀ j want q, o.guard = some (j, want) → (ops[j]?).bind (·.dst) = some q → TRep g c ((opnd gl reg (.tmp q)).ev t f) (a.tmps.getD q undef)) :
    Region.wanted o (yielded ops a.tmps) = b := by
  unfold GuardIs at hg
  unfold Region.wanted
  cases ho : o.guard with
  | none => rw [ho] at hg; exact hg.symm
  | some p =>
    obtain ⟨j, want⟩ := p
    rw [ho] at hg
    obtain ⟨q, h1, h2⟩ := hg
    exact wants_ok h1 (hx j want q ho h1) h2
theorem GuardIs.uniq {b b' : Bool} (h : GuardIs ops gl reg t f o b) (h' : GuardIs ops gl reg t f o b') : b = b' := by
  unfold GuardIs at h h'
  cases hg : o.guard with
  | none => rw [hg] at h h'; exact h.trans h'.symm
  | some p =>
    rw [hg] at h h'
    obtain ⟨x, h1, h2⟩ := h
    obtain ⟨x', h1', h2'⟩ := h'
    rw [h1] at h1'
    simp only [Option.some.injEq] at h1'; subst h1'
    rw [h2] at h2'
    exact Option.some.inj h2'
theorem compG_ok (hcl : ClOk Pr D cl) (h : ∀ w, exec cl (compG Pr D ops nt gl reg o) k t s ≠ .x w) :
    ∃ b v h' c', dstOk nt o.dst = true ∧ GuardIs ops gl reg t s.f o b ∧ v ≠ .dead ∧ exec cl (compG Pr D ops nt gl reg o) k t s = k (putT (dstP gl o.dst) v t) ⟨putF (dstP gl o.dst) v s.f, h', c'⟩ ∧
      (b = true → OpW Pr D gl reg o t s.f s.h s.c v h' c') ∧ (b = false → v = .und ∧ h' = s.h ∧ c' = s.c) ∧ (light (compG Pr D ops nt gl reg o) = true → v = valG (compG Pr D ops nt gl reg o) t s.f s.h ∧ h' = s.h ∧ c' = s.c ∧ (b = true → OpV Pr D gl reg o t s.f s.h s.c v)) := by
  unfold compG at h ⊢
  cases hd : dstOk nt o.dst with
  | false => rw [hd] at h; exact absurd rfl (h 34)
  | true =>
    rw [hd] at h
    simp only at h ⊢
    cases ho : o.guard with
    | none =>
      rw [ho] at h
      simp only at h ⊢
      obtain ⟨v, h', c', h1, h2, h3, h4⟩ := compOp_ok hcl h
      refine ⟨true, v, h', c', trivial, by unfold GuardIs; rw [ho], h1, h2, fun _ => h3, (fun e => by cases e), fun e => ?_⟩
      obtain ⟨q1, q2, q3, q4⟩ := h4 e
      refine ⟨?_, q2, q3, fun _ => q4⟩
      rw [q1]
      unfold valG
      split
      · rename_i e2; exact absurd e2 (compOp_nogrd _ _ _ _)
      · rfl
    | some p =>
      obtain ⟨j, want⟩ := p
      rw [ho] at h
      simp only at h ⊢
      cases hj : (ops[j]?).bind (·.dst) with
      | none => rw [hj] at h; exact absurd rfl (h 32)
      | some q =>
        rw [hj] at h
        simp only at h ⊢
        have e : ∀ x, exec cl (.grd (opnd gl reg (.tmp q)) want (dstP gl o.dst) x) k t s = Option.casesOn (wants ((opnd gl reg (.tmp q)).ev t s.f) want) (.x 47) fun b => b.casesOn (put (dstP gl o.dst) .und k t s) (exec cl x k t s) := fun _ => rfl
        rw [e] at h
        rw [e]
        cases hw : wants ((opnd gl reg (.tmp q)).ev t s.f) want with
        | none => rw [hw] at h; exact absurd rfl (h 47)
        | some b =>
          rw [hw] at h
          cases b with
          | false =>
            exact ⟨false, .und, s.h, s.c, trivial, by unfold GuardIs; rw [ho]; exact ⟨q, hj, hw⟩, (fun e => by cases e), put_eq _ _ _ _ _, (fun e => by cases e), (fun _ => ⟨rfl, rfl, rfl⟩), fun _ => ⟨by simp only [valG, hw], rfl, rfl, fun e => by cases e⟩⟩
          | true =>
            obtain ⟨v, h', c', h1, h2, h3, h4⟩ := compOp_ok hcl (k := k) (t := t) (s := s) (gl := gl) (reg := reg) (o := o) h
            refine ⟨true, v, h', c', trivial, by unfold GuardIs; rw [ho]; exact ⟨q, hj, hw⟩, h1, h2, fun _ => h3, (fun e => by cases e), fun e => ?_⟩
            obtain ⟨q1, q2, q3, q4⟩ := h4 (by
              revert e
              unfold light kdF
              cases compOp Pr D gl reg o.dst o.op <;> intro e <;> first | rfl | exact absurd e Bool.false_ne_true)
            refine ⟨?_, q2, q3, fun _ => q4⟩
            rw [q1]
            simp only [valG, hw]
theorem light_run {fo : FOp} (hl : light fo = true) (hv : valG fo t s.f s.h ≠ .dead) : ∀ w, exec cl fo R.n t s ≠ .x w := by
  have key : ∀ (fo : FOp), light fo = true → valO fo t s.f s.h ≠ .dead → ∃ why st, exec cl fo R.n t s = fin why st (valO fo t s.f s.h) R.n t s := by
    intro fo hl hv
    cases fo <;> first | exact absurd rfl hv | exact ⟨_, _, rfl⟩
  have fin_ok : ∀ why st v, v ≠ .dead → ∀ w, fin why st v R.n t s ≠ .x w := by
    intro why st v hv w
    unfold fin
    rw [forceV_eq _ _ hv, put_eq]
    intro e; cases e
  cases fo with
  | grd g want st o =>
    have e : exec cl (.grd g want st o) R.n t s = Option.casesOn (wants (g.ev t s.f) want) (.x 47) fun b => b.casesOn (put st .und R.n t s) (exec cl o R.n t s) := rfl
    rw [e]
    simp only [valG] at hv
    cases hw : wants (g.ev t s.f) want with
    | none => rw [hw] at hv; exact absurd rfl hv
    | some b =>
      rw [hw] at hv
      cases b with
      | false =>
        intro w
        show put st .und R.n t s ≠ _
        rw [put_eq]
        intro e; cases e
      | true =>
        obtain ⟨why, st', h⟩ := key o (by
          revert hl
          unfold light kdF
          cases o <;> intro e <;> first | rfl | exact absurd e Bool.false_ne_true) hv
        intro w
        show exec cl o R.n t s ≠ _
        rw [h]
        exact fin_ok _ _ _ hv w
  | _ =>
    obtain ⟨why, st', h⟩ := key _ hl hv
    rw [h]
    exact fin_ok _ _ _ hv
theorem light_at (hcl : ClOk Pr D cl) {h : HT} (hl : light (compG Pr D ops nt gl reg o) = true) (hv : valG (compG Pr D ops nt gl reg o) t f h ≠ .dead) (hg : GuardIs ops gl reg t f o true) (c : Nat) :
    OpV Pr D gl reg o t f h c (valG (compG Pr D ops nt gl reg o) t f h) := by
  obtain ⟨b, v, h', c', q1, q2, q3, q4, q5, q6, q7⟩ := compG_ok (k := R.n) (s := ⟨f, h, c⟩) (t := t) hcl (light_run (s := ⟨f, h, c⟩) hl hv)
  obtain ⟨rfl, rfl, rfl, q8⟩ := q7 hl
  cases q2.uniq hg
  exact q8 rfl
theorem runOps_cons (cl : Cl) (o : FOp) (r : FOps) : runOps cl (.cons o r) = exec cl o (runOps cl r) := rfl
theorem ops_wp (hcl : ClOk Pr D cl) (hgl : GlOk nt gl) {Q : Exit → Act → World → Prop} : ∀ (l : List Oper) (i : Nat) (reg : List Nat) (t : L) (s : S) (a : Act) (w : World) (g : Gm), ops.toList.drop i = l →
    (∀ w, runOps cl (compOps Pr D ops nt gl reg l) t s ≠ .x w) → SRel nt gl reg g s.c t s.f a → HOk D g s.h s.c w →
    (∀ t' s' a' w' g', runOps cl (compOps Pr D ops nt gl reg l) t s = .n t' s' → SRel nt gl (regOps reg l) g' s'.c t' s'.f a' → HOk D g' s'.h s'.c w' → Post g (hp D s.h) s.c w g' (hp D s'.h) s'.c w' → Q .normal a' w') →
    wpOps Pr ops Q (List.range' i l.length) a w := by
  intro l
  induction l with
  | nil =>
    intro i reg t s a w g hl hx hs hi hq
    exact hq t s a w g rfl hs hi (Post.refl hi.inv)
  | cons o r ih =>
    intro i reg t s a w g hl hx hs hi hq
    have hio : ops[i]? = some o := by
      have := congrArg (·[0]?) hl
      simpa using this
    have hr : ops.toList.drop (i + 1) = r := by
      have := congrArg List.tail hl
      simpa using this
    have e : compOps Pr D ops nt gl reg (o :: r) = .cons (compG Pr D ops nt gl reg o) (compOps Pr D ops nt gl (regOf o.dst reg) r) := rfl
    rw [e, runOps_cons] at hx hq
    obtain ⟨b, v, h', c', hd, hgd, hv, he, hT, hF, _⟩ := compG_ok hcl hx
    rw [he] at hx hq
    rw [List.length_cons, List.range'_succ]
    simp only [wpOps, hio]
    have hw := guard_ok (g := g) (c := s.c) hgd fun j want q _ _ => opnd_ok hs (.tmp q)
    cases b with
    | false =>
      obtain ⟨rfl, rfl, rfl⟩ := hF rfl
      rw [if_neg (by simp [hw])]
      exact ih (i + 1) _ _ _ _ w g hr hx (hs.put hgl hd (show TRep g s.c .und undef from rfl)) hi hq
    | true =>
      rw [if_pos hw]
      refine .inl (hT rfl a w g (hs.opr o.op) hi _ _ fun u w' g' q1 q2 q3 => ?_)
      refine ih (i + 1) _ _ _ _ w' g' hr hx ((hs.mono q2.agree q2.le).put hgl hd q3) q1 fun t' s' a' w'' g'' k1 k2 k3 k4 => hq t' s' a' w'' g'' k1 k2 k3 (q2.trans k4)
end
end
end Go.FM
end

section
namespace Go.FM
noncomputable section
variable [Env]
theorem hvEq_eq {a b : HV} (h : hvEq a b = true) : a = b := by
  cases a <;> cases b <;> first | rfl | (exact absurd h Bool.false_ne_true) | skip
  · rename_i k x k' y
    simp only [hvEq, Bool.and_eq_true] at h
    cases ikEq_eq h.1
    obtain ⟨_, h⟩ := h
    cases x <;> cases y <;> first | (exact absurd h Bool.false_ne_true) | (have := Nat.eq_of_beq_eq_true h; subst this; rfl)
  · simp only [hvEq, beq_iff_eq] at h; rw [h]
  · simp only [hvEq, Bool.and_eq_true, beq_iff_eq] at h
    rw [h.1, Nat.eq_of_beq_eq_true h.2]
  · simp only [hvEq, Bool.and_eq_true, beq_iff_eq] at h
    rw [h.1.1, Nat.eq_of_beq_eq_true h.1.2, Nat.eq_of_beq_eq_true h.2]
  · simp only [hvEq, Bool.and_eq_true] at h
    rw [Nat.eq_of_beq_eq_true h.1, Nat.eq_of_beq_eq_true h.2]
  · simp only [hvEq, Bool.and_eq_true] at h
    rw [Nat.eq_of_beq_eq_true h.1, Nat.eq_of_beq_eq_true h.2]
  · simp only [hvEq, Bool.and_eq_true, beq_iff_eq] at h
    rw [Nat.eq_of_beq_eq_true h.1, h.2]
  · simp only [hvEq, Bool.and_eq_true, beq_iff_eq] at h
    rw [Nat.eq_of_beq_eq_true h.1.1.1.1, Nat.eq_of_beq_eq_true h.1.1.1.2, Nat.eq_of_beq_eq_true h.1.1.2, Nat.eq_of_beq_eq_true h.1.2, h.2]
  · rw [Nat.eq_of_beq_eq_true h]
  · simp only [hvEq, Bool.and_eq_true] at h
    rw [ikEq_eq h.1, Nat.eq_of_beq_eq_true h.2]
theorem hvEqs_eq : ∀ {a b : List HV}, hvEqs a b = true → a = b
  | [], [], _ => rfl
  | x :: a, y :: b, h => by
    simp only [hvEqs, Bool.and_eq_true] at h
    rw [hvEq_eq h.1, hvEqs_eq h.2]
  | [], _ :: _, h => by cases h
  | _ :: _, [], h => by cases h
theorem hvEqT_eq : ∀ {a b : List HV}, hvEqT a b = true → a = b
  | [], [], _ => rfl
  | x :: a, y :: b, h => by
    simp only [hvEqT, Bool.and_eq_true] at h
    rw [hvEqT_eq h.2]
    have h1 := h.1
    split at h1
    · rw [hvEqs_eq h1]
    · rw [hvEq_eq h1]
  | [], _ :: _, h => by cases h
  | _ :: _, [], h => by cases h
theorem vEq_eq {a b : HV} (h : vEq a b = true) : a = b := by
  unfold vEq at h
  split at h
  · rw [hvEqs_eq h]
  · rw [hvEqT_eq h]
  · exact hvEq_eq h
theorem valG_pure {fo : FOp} {t : L} {f : F} (h : kdF fo = .pure) (m m' : HT) : valG fo t f m = valG fo t f m' := by
  cases fo with
  | grd g want st o =>
    cases o <;> first | (cases h; done) | rfl
  | _ => first | (cases h; done) | rfl
theorem light_kd {fo : FOp} : light fo = true ↔ kdF fo = .pure ∨ kdF fo = .read := by
  unfold light
  cases kdF fo <;> simp
def isEff : Kd → Bool
  | .eff => true
  | _ => false
def effAt (ks : List Kd) (i : Nat) : Bool := match ks[i]? with
  | some k => isEff k
  | none => false
def cnt (ks : List Kd) : Nat → Nat
  | 0 => 0
  | i + 1 => if effAt ks i then cnt ks i + 1 else cnt ks i
def marks (ks : List Kd) : Nat → List Nat
  | 0 => [0]
  | i + 1 => if effAt ks i then (i + 1) :: marks ks i else marks ks i
theorem marks_le (ks : List Kd) : ∀ i q, q ∈ marks ks i → q ≤ i
  | 0, q, h => by simp [marks] at h; omega
  | i + 1, q, h => by
    simp only [marks] at h
    split at h
    · rcases List.mem_cons.1 h with h | h
      · omega
      · have := marks_le ks i q h; omega
    · have := marks_le ks i q h; omega
theorem cnt_mono (ks : List Kd) {i j : Nat} (h : i ≤ j) : cnt ks i ≤ cnt ks j := by
  induction h with
  | refl => exact Nat.le_refl _
  | step h ih => simp only [cnt]; split <;> omega
theorem marks_at (ks : List Kd) : ∀ i q, q ∈ marks ks i → (marks ks i)[cnt ks i - cnt ks q]? = some q
  | 0, q, h => by simp [marks] at h; subst h; simp [marks]
  | i + 1, q, h => by
    simp only [marks, cnt] at h ⊢
    split
    · rename_i he
      rw [if_pos he] at h
      rcases List.mem_cons.1 h with h | h
      · subst h
        simp [cnt, he]
      · have h1 := marks_at ks i q h
        have h2 := cnt_mono ks (marks_le ks i q h)
        rw [show cnt ks i + 1 - cnt ks q = (cnt ks i - cnt ks q) + 1 by omega]
        simpa using h1
    · rename_i he
      rw [if_neg he] at h
      exact marks_at ks i q h
theorem same_get (p : HT → Bool) : ∀ (n : Nat) (hs : List HT), same p n hs = true → ∀ i h, i < n → hs[i]? = some h → p h = true
  | 0, _, _, i, _, hi, _ => absurd hi (Nat.not_lt_zero i)
  | n + 1, [], hs, i, h, hi, hg => by simp at hg
  | n + 1, x :: r, hs, i, h, hi, hg => by
    have e : same p (n + 1) (x :: r) = (p x).casesOn (motive := fun _ => Bool) false (same p n r) := rfl
    rw [e] at hs
    cases hx : p x with
    | false => rw [hx] at hs; cases hs
    | true =>
      rw [hx] at hs
      cases i with
      | zero => simp at hg; subst hg; exact hx
      | succ i => exact same_get p n r hs i h (by omega) (by simpa using hg)
def PHas (m : Nat) (q : HT → Bool) : Pend → Prop
  | .nil => False
  | .cons n p r => (m ≤ n ∧ p = q) ∨ PHas m q r
theorem pAll_has {h : HT} {m : Nat} {q : HT → Bool} : ∀ {l : Pend}, pAll h l = true → PHas (m + 1) q l → q h = true
  | .nil, _, hp => hp.elim
  | .cons n p r, ha, hp => by
    have e : pAll h (.cons n p r) = Nat.casesOn (motive := fun _ => Bool) n (pAll h r) fun _ => (p h).casesOn (motive := fun _ => Bool) false (pAll h r) := rfl
    rw [e] at ha
    cases n with
    | zero =>
      rcases hp with hp | hp
      · omega
      · exact pAll_has ha hp
    | succ n =>
      simp only at ha
      cases hx : p h with
      | false => rw [hx] at ha; cases ha
      | true =>
        rw [hx] at ha
        rcases hp with hp | hp
        · rw [← hp.2]; exact hx
        · exact pAll_has ha hp
theorem pNext_has {m : Nat} {q : HT → Bool} : ∀ {l : Pend}, PHas (m + 1) q l → PHas m q (pNext l) ∨ m = 0
  | .nil, hp => hp.elim
  | .cons n p r, hp => by
    have e : pNext (.cons n p r) = Nat.casesOn (motive := fun _ => Pend) n (pNext r) fun n => .cons n p (pNext r) := rfl
    rw [e]
    cases n with
    | zero =>
      rcases hp with hp | hp
      · omega
      · exact pNext_has hp
    | succ n =>
      rcases hp with hp | hp
      · exact .inl (.inl ⟨by omega, hp.2⟩)
      · rcases pNext_has hp with h | h
        · exact .inl (.inr h)
        · exact .inr h
end
end Go.FM
end

section
namespace Go.FM
noncomputable section
variable [Env]
structure Tc where
  T : Nat → L
  F : Nat → FM.F
  H : Nat → HT
  C : Nat → Nat
  V : Nat → HV
  B : Nat → Bool
def Tc.ext (x : Tc) (i : Nat) (t : L) (f : FM.F) (h : HT) (c : Nat) (v : HV) (b : Bool) : Tc :=
  ⟨fun j => if j ≤ i then x.T j else t, fun j => if j ≤ i then x.F j else f, fun j => if j ≤ i then x.H j else h, fun j => if j ≤ i then x.C j else c, fun j => if j = i then v else x.V j, fun j => if j = i then b else x.B j⟩
structure Same (x y : Tc) (i : Nat) : Prop where
  T : ∀ j, j ≤ i → y.T j = x.T j
  F : ∀ j, j ≤ i → y.F j = x.F j
  H : ∀ j, j ≤ i → y.H j = x.H j
  C : ∀ j, j ≤ i → y.C j = x.C j
  V : ∀ j, j < i → y.V j = x.V j
  B : ∀ j, j < i → y.B j = x.B j
theorem Tc.ext_same (x : Tc) (i : Nat) (t : L) (f : FM.F) (h : HT) (c : Nat) (v : HV) (b : Bool) : Same x (x.ext i t f h c v b) i :=
  ⟨fun j hj => if_pos hj, fun j hj => if_pos hj, fun j hj => if_pos hj, fun j hj => if_pos hj, fun j hj => if_neg (by omega), fun j hj => if_neg (by omega)⟩
section
variable {Pr : Program} {D : Nat}
def AlOk (D : Nat) (f : HT → Nat → List HV → CR) : Prop := ∀ h c args v h' c', f h c args = .ok v h' c' → ∃ b, c' = c + 1 ∧ c < 4 ^ D ∧ h' = HT.set D c (.own 0 b) h ∧ f .nil c args = .ok v (HT.set D c (.own 0 b) .nil) (c + 1)
theorem newO_al {o : HB} {x v : HV} {h h' : HT} {c c' : Nat} (hn : newO D 0 o x h c = .ok v h' c') : ∃ b, c' = c + 1 ∧ c < 4 ^ D ∧ h' = HT.set D c (.own 0 b) h ∧ newO D 0 o x .nil c = .ok v (HT.set D c (.own 0 b) .nil) (c + 1) := by
  obtain ⟨h1, h2, rfl, rfl, rfl⟩ := newO_some hn
  refine ⟨o, rfl, h1, rfl, ?_⟩
  have hb : Nat.blt c (Nat.pow 4 D) = true := Nat.ble_eq_true_of_le h1
  unfold newO
  rw [hb]
  cases o with
  | no => exact absurd rfl h2
  | cells cs => rfl
  | byt n d => rfl
  | map es cl => rfl
theorem allocF_al {e : TypeId} {f : HT → Nat → List HV → CR} (hf : allocF Pr D e = .f f) : AlOk D f := by
  unfold allocF at hf
  split at hf
  · cases hf
  · cases hall : (zeroT Pr e).cells.all HV.isCell with
    | false => rw [hall] at hf; cases hf
    | true =>
      rw [hall] at hf
      injection hf with hf; subst hf
      exact fun h c args v h' c' hr => newO_al hr
theorem boxF_al {e : TypeId} {f : HT → Nat → List HV → CR} (hf : boxF Pr D e = .f f) : AlOk D f := by
  unfold boxF at hf
  split at hf
  · injection hf with hf; subst hf
    intro h c args v h' c' hr
    simp only at hr ⊢
    split at hr
    · split at hr
      · rename_i hc; simp only [if_pos hc]; exact newO_al hr
      · cases hr
    · cases hr
  · cases hf
theorem buildSliceF_al {t : TypeId} {len : Nat} {is : List Nat} {f : HT → Nat → List HV → CR} (hf : buildSliceF Pr D t len is = .f f) : AlOk D f := by
  unfold buildSliceF at hf
  split at hf
  · split at hf
    · cases hf
    · split at hf
      · cases hf
      · injection hf with hf; subst hf
        intro h c args v h' c' hr
        simp only at hr ⊢
        split at hr
        · exact newO_al hr
        · cases hr
    · cases hf
  · cases hf
theorem makeSliceF_al {t : TypeId} {f : HT → Nat → List HV → CR} (hf : makeSliceF Pr D t = .f f) : AlOk D f := by
  unfold makeSliceF at hf
  split at hf
  · split at hf
    · split at hf
      · cases hf
      · injection hf with hf; subst hf
        intro h c args v h' c' hr
        simp only at hr ⊢
        split at hr
        · split at hr
          · rename_i l co h1 h2
            split at hr
            · rename_i hc; simp only [h1, h2, if_pos hc]; exact newO_al hr
            · cases hr
          · cases hr
        · cases hr
    · cases hf
  · cases hf
theorem compOp_al {gl : Nat} {reg : List Nat} {dst : Option Nat} {op : Op} {st : P} {f : HT → Nat → List HV → CR} {xs : List G} (h : compOp Pr D gl reg dst op = .al st f xs) : AlOk D f ∧ st = dstP gl dst := by
  have key : ∀ {a : AN} {st' : P} {xs' : List G}, oAN st' a xs' = .al st f xs → a = .f f ∧ st = st' := by
    intro a st' xs' e
    cases a with
    | f q => simp only [oAN, FOp.al.injEq] at e; exact ⟨by rw [e.2.1], e.1.symm⟩
    | no => cases e
  cases op
  case makeFunc fn first caps =>
    cases fn <;> (try cases h)
    rename_i q
    have h : (if first.isEmpty then FOp.un (dstP gl dst) (makeFnF q) (opnds gl reg caps.toList) else .bad 28) = .al st f xs := h
    split at h <;> cases h
  case makeMap t r =>
    cases r with
    | some r => cases h
    | none =>
      have h : FOp.al (dstP gl dst) (makeM D) [] = .al st f xs := h
      simp only [FOp.al.injEq] at h
      obtain ⟨rfl, rfl, _⟩ := h
      exact ⟨fun h c args v h' c' hr => newO_al hr, rfl⟩
  all_goals simp only [compOp] at h
  case alloc e => exact ⟨allocF_al (key h).1, (key h).2⟩
  case box e x => exact ⟨boxF_al (key h).1, (key h).2⟩
  case buildSlice t l ps => exact ⟨buildSliceF_al (key h).1, (key h).2⟩
  case makeSlice t l c => exact ⟨makeSliceF_al (key h).1, (key h).2⟩
  all_goals (try simp only [oF1, oF2, oF3, oFN, oE2, oH1, compBi, cmpOp] at h)
  all_goals (try cases h)
  all_goals (repeat (first | (split at h) | cases h))
end
section
variable (Pr : Program) (D nt gl : Nat) (ops : Array Oper)
def regAt (j : Nat) : List Nat := regOps [] (ops.toList.take j)
def foAt (j : Nat) (o : Oper) : FOp := compG Pr D ops nt gl (regAt ops j) o
def kdsOf : List Kd := (fopsOf Pr D ops nt gl [] ops.toList).map kdF
def ancOf : List Nat := ancs [] ops.toList
def backAt (j : Nat) : Nat := Nat.sub (cntE (fun i => Nat.blt i j) 0 (kdsOf Pr D nt gl ops)) (cntE (fun i => Nat.testBit (natAt (ancOf ops) j) i) 0 (kdsOf Pr D nt gl ops))
def fwdAt (j : Nat) : Nat := Nat.sub (cntE (fun i => !(Nat.testBit (natAt (ancOf ops) i) j)) 0 (kdsOf Pr D nt gl ops)) (cntE (fun i => Nat.blt i j) 0 (kdsOf Pr D nt gl ops))
def chkAt (j : Nat) (o : Oper) : List G := if laterN (ancOf ops) j 0 (kdsOf Pr D nt gl ops) then opnds gl (regAt ops j) o.op.operands.toList else []
structure StepOk (x : Tc) (j : Nat) (o : Oper) : Prop where
  dst : dstOk nt o.dst = true
  grd : GuardIs ops gl (regAt ops j) (x.T j) (x.F j) o (x.B j)
  live : x.V j ≠ .dead
  le : x.C j ≤ x.C (j + 1)
  t : x.T (j + 1) = putT (dstP gl o.dst) (x.V j) (x.T j)
  f : x.F (j + 1) = putF (dstP gl o.dst) (x.V j) (x.F j)
  off : x.B j = false → x.V j = .und ∧ x.H (j + 1) = x.H j ∧ x.C (j + 1) = x.C j
  on : x.B j = true → OpW Pr D gl (regAt ops j) o (x.T j) (x.F j) (x.H j) (x.C j) (x.V j) (x.H (j + 1)) (x.C (j + 1))
  light : light (foAt Pr D nt gl ops j o) = true → x.V j = valG (foAt Pr D nt gl ops j o) (x.T j) (x.F j) (x.H j) ∧ x.H (j + 1) = x.H j ∧ x.C (j + 1) = x.C j
  al : kdF (foAt Pr D nt gl ops j o) = .new → x.B j = true → ∃ b, x.C (j + 1) = x.C j + 1 ∧ x.C j < 4 ^ D ∧ x.H (j + 1) = HT.set D (x.C j) (.own 0 b) (x.H j) ∧ OpW Pr D gl (regAt ops j) o (x.T j) (x.F j) .nil (x.C j) (x.V j) (HT.set D (x.C j) (.own 0 b) .nil) (x.C j + 1)
  chk : kdF (foAt Pr D nt gl ops j o) = .new ∨ kdF (foAt Pr D nt gl ops j o) = .eff → underA (x.C j) (evs (chkAt Pr D nt gl ops j o) (x.T j) (x.F j)) = true
structure TrOk (x : Tc) (i : Nat) : Prop where
  step : ∀ j o, j < i → ops.toList[j]? = some o → StepOk Pr D nt gl ops x j o
  read : ∀ j o, j < i → ops.toList[j]? = some o → kdF (foAt Pr D nt gl ops j o) = .read → ∀ q, q ∈ marks (kdsOf Pr D nt gl ops) i → cnt (kdsOf Pr D nt gl ops) j ≤ cnt (kdsOf Pr D nt gl ops) q + backAt Pr D nt gl ops j → cnt (kdsOf Pr D nt gl ops) q ≤ cnt (kdsOf Pr D nt gl ops) j + fwdAt Pr D nt gl ops j →
    valG (foAt Pr D nt gl ops j o) (x.T j) (x.F j) (x.H q) = x.V j
def PendOk (x : Tc) (i : Nat) (p : Pend) : Prop :=
  ∀ j o, j < i → ops.toList[j]? = some o → kdF (foAt Pr D nt gl ops j o) = .read → cnt (kdsOf Pr D nt gl ops) i < cnt (kdsOf Pr D nt gl ops) j + fwdAt Pr D nt gl ops j →
    PHas (cnt (kdsOf Pr D nt gl ops) j + fwdAt Pr D nt gl ops j - cnt (kdsOf Pr D nt gl ops) i) (fun h => vEq (x.V j) (valG (foAt Pr D nt gl ops j o) (x.T j) (x.F j) h)) p
end
section
variable {Pr : Program} {D nt gl : Nat} {ops : Array Oper} {x y : Tc} {i : Nat}
theorem StepOk.same {j : Nat} {o : Oper} (h : StepOk Pr D nt gl ops x j o) (hs : Same x y i) (hj : j < i) : StepOk Pr D nt gl ops y j o := by
  have a1 := hs.T j (by omega)
  have a2 := hs.T (j + 1) hj
  have b1 := hs.F j (by omega)
  have b2 := hs.F (j + 1) hj
  have c1 := hs.H j (by omega)
  have c2 := hs.H (j + 1) hj
  have d1 := hs.C j (by omega)
  have d2 := hs.C (j + 1) hj
  have e1 := hs.V j hj
  have e2 := hs.B j hj
  obtain ⟨h1, h2, h3, h11, h4, h5, h6, h7, h8, h9, h10⟩ := h
  constructor
  · exact h1
  all_goals (simp only [a1, a2, b1, b2, c1, c2, d1, d2, e1, e2]; assumption)
theorem TrOk.same (h : TrOk Pr D nt gl ops x i) (hs : Same x y i) : TrOk Pr D nt gl ops y i where
  step := fun j o hj ho => (h.step j o hj ho).same hs hj
  read := fun j o hj ho hk q hq h1 h2 => by
    rw [hs.T j (by omega), hs.F j (by omega), hs.H q (marks_le _ _ _ hq), hs.V j hj]
    exact h.read j o hj ho hk q hq h1 h2
theorem PendOk.same {p : Pend} (h : PendOk Pr D nt gl ops x i p) (hs : Same x y i) : PendOk Pr D nt gl ops y i p := by
  intro j o hj ho hk hlt
  rw [hs.T j (by omega), hs.F j (by omega), hs.V j hj]
  exact h j o hj ho hk hlt
theorem Same.trans {z : Tc} {k : Nat} (h : Same x y i) (h' : Same y z k) (hi : i ≤ k) : Same x z i :=
  ⟨fun j hj => (h'.T j (by omega)).trans (h.T j hj), fun j hj => (h'.F j (by omega)).trans (h.F j hj), fun j hj => (h'.H j (by omega)).trans (h.H j hj), fun j hj => (h'.C j (by omega)).trans (h.C j hj), fun j hj => (h'.V j (by omega)).trans (h.V j hj), fun j hj => (h'.B j (by omega)).trans (h.B j hj)⟩
end
end
end Go.FM
end

section
namespace Go.FM
noncomputable section
variable [Env]
section
variable {Pr : Program} {D nt gl : Nat} {ops : Array Oper} {reg : List Nat} {t : L} {f : F} {s : S} {cl : Cl} {o : Oper} {k : K}
theorem putT_some {d : Option Nat} (hd : d.isSome = true) (v : HV) (t : L) : putT (dstP gl d) v t = v :: t := by
  cases d with
  | none => cases hd
  | some d =>
    have e : dstP gl (some d) = (Nat.testBit gl d).casesOn (motive := fun _ => P) .loc (pVar (rank gl d)) := rfl
    rw [e]
    cases Nat.testBit gl d with
    | false => rfl
    | true =>
      obtain ⟨u, hu, _⟩ := pVar_eq (rank gl d)
      show putT (pVar (rank gl d)) v t = _
      rw [hu]; rfl
theorem compG_new (hcl : ClOk Pr D cl) (hds : o.dst.isSome = true) (hk : kdF (compG Pr D ops nt gl reg o) = .new) (h : ∀ w, exec cl (compG Pr D ops nt gl reg o) k t s ≠ .x w) :
    ∃ b v h' c', dstOk nt o.dst = true ∧ GuardIs ops gl reg t s.f o b ∧ v ≠ .dead ∧ exec cl (compG Pr D ops nt gl reg o) k t s = k (putT (dstP gl o.dst) v t) ⟨putF (dstP gl o.dst) v s.f, h', c'⟩ ∧
      (b = true → OpW Pr D gl reg o t s.f s.h s.c v h' c') ∧ (b = false → v = .und ∧ h' = s.h ∧ c' = s.c) ∧
      (b = true → ∃ q, c' = s.c + 1 ∧ s.c < 4 ^ D ∧ h' = HT.set D s.c (.own 0 q) s.h ∧ OpW Pr D gl reg o t s.f .nil s.c v (HT.set D s.c (.own 0 q) .nil) (s.c + 1)) := by
  obtain ⟨b, v, h', c', hd, hg, hv, he, hT, hF, _⟩ := compG_ok hcl h
  cases b with
  | false => exact ⟨false, v, h', c', hd, hg, hv, he, hT, hF, fun e => by cases e⟩
  | true =>
    have main : ∀ (st : P) (q : HT → Nat → List HV → CR) (xs : List G), AlOk D q → (∀ (k : K) (s' : S), s'.f = s.f → exec cl (compG Pr D ops nt gl reg o) k t s' = finC st (q s'.h s'.c (evs xs t s'.f)) k t s') → st = dstP gl o.dst →
        ∃ v h' c', v ≠ .dead ∧ exec cl (compG Pr D ops nt gl reg o) k t s = k (putT (dstP gl o.dst) v t) ⟨putF (dstP gl o.dst) v s.f, h', c'⟩ ∧ OpW Pr D gl reg o t s.f s.h s.c v h' c' ∧
        ∃ q, c' = s.c + 1 ∧ s.c < 4 ^ D ∧ h' = HT.set D s.c (.own 0 q) s.h ∧ OpW Pr D gl reg o t s.f .nil s.c v (HT.set D s.c (.own 0 q) .nil) (s.c + 1) := by
      intro st q xs hal hex hst
      subst hst
      have h0 := h
      rw [hex k s rfl] at h0
      obtain ⟨v, h', c', hr, hv, he⟩ := finC_some h0
      obtain ⟨bd, e1, e2, e3, e4⟩ := hal _ _ _ _ _ _ hr
      have run : ∀ (s' : S) (h1 : HT) (c1 : Nat), s'.f = s.f → q s'.h s'.c (evs xs t s'.f) = .ok v h1 c1 → exec cl (compG Pr D ops nt gl reg o) R.n t s' = R.n (putT (dstP gl o.dst) v t) ⟨putF (dstP gl o.dst) v s'.f, h1, c1⟩ := by
        intro s' h1 c1 hf hr'
        rw [hex R.n s' hf, hr']
        show forceN c1 (fun c => forceV v (.x 40) fun v => put (dstP gl o.dst) v R.n t ⟨s'.f, h1, c⟩) = _
        rw [forceN_eq, forceV_eq _ _ hv, put_eq]
      have opw : ∀ (s' : S) (h1 : HT) (c1 : Nat), s'.f = s.f → q s'.h s'.c (evs xs t s'.f) = .ok v h1 c1 → OpW Pr D gl reg o t s.f s'.h s'.c v h1 c1 := by
        intro s' h1 c1 hf hr'
        have e := run s' h1 c1 hf hr'
        obtain ⟨b2, v2, h2, c2, _, hg2, _, he2, hT2, _, _⟩ := compG_ok (k := R.n) (s := s') (t := t) hcl (fun w => by rw [e]; intro e; cases e)
        rw [e] at he2
        rw [putT_some hds, putT_some hds] at he2
        injection he2 with a1 a2
        injection a1 with a1 _
        injection a2 with _ a2 a3
        subst a1; subst a2; subst a3
        rw [hf] at hg2 hT2
        cases hg2.uniq hg
        exact hT2 rfl
      rw [hex k s rfl]
      exact ⟨v, h', c', hv, he, opw s h' c' rfl hr, bd, e1, e2, e3, opw ⟨s.f, .nil, s.c⟩ _ _ rfl e4⟩
    have fin : ∃ (st : P) (q : HT → Nat → List HV → CR) (xs : List G), AlOk D q ∧ (∀ (k : K) (s' : S), s'.f = s.f → exec cl (compG Pr D ops nt gl reg o) k t s' = finC st (q s'.h s'.c (evs xs t s'.f)) k t s') ∧ st = dstP gl o.dst := by
      clear main
      revert hk hg
      unfold compG
      rw [hd]
      simp only
      cases hgd : o.guard with
      | none =>
        simp only
        intro hk hg
        cases hc : compOp Pr D gl reg o.dst o.op <;> rw [hc] at hk <;> try (cases hk; done)
        · rename_i st q xs
          obtain ⟨h1, h2⟩ := compOp_al hc
          exact ⟨st, q, xs, h1, fun k s' _ => rfl, h2⟩
        · exact absurd hc (compOp_nogrd _ _ _ _)
      | some p =>
        obtain ⟨j, want⟩ := p
        simp only
        cases hj : (ops[j]?).bind (·.dst) with
        | none => intro hk; cases hk
        | some x =>
          simp only
          intro hk hg
          unfold GuardIs at hg
          rw [hgd] at hg
          obtain ⟨x', hx', hw⟩ := hg
          rw [hj] at hx'
          simp only [Option.some.injEq] at hx'; subst hx'
          cases hc : compOp Pr D gl reg o.dst o.op <;> rw [hc] at hk <;> try (cases hk; done)
          rename_i st q xs
          obtain ⟨h1, h2⟩ := compOp_al hc
          refine ⟨st, q, xs, h1, fun k s' hf => ?_, h2⟩
          have e : exec cl (.grd (opnd gl reg (.tmp x)) want (dstP gl o.dst) (.al st q xs)) k t s' = Option.casesOn (wants ((opnd gl reg (.tmp x)).ev t s'.f) want) (.x 47) fun b => b.casesOn (put (dstP gl o.dst) .und k t s') (exec cl (.al st q xs) k t s') := rfl
          have hw' : wants ((opnd gl reg (.tmp x)).ev t s'.f) want = some true := by rw [hf]; exact hw
          rw [e, hw']
          rfl
    obtain ⟨st, q, xs, h1, h2, h3⟩ := fin
    obtain ⟨v, h', c', a1, a2, a3, a4⟩ := main st q xs h1 h2 h3
    exact ⟨true, v, h', c', hd, hg, a1, a2, fun _ => a3, (fun e => by cases e), fun _ => a4⟩
end
end
end Go.FM
end

section
namespace Go.FM
noncomputable section
variable [Env]
section
variable {Pr : Program} {D nt gl : Nat} {ops : Array Oper} {cl : Cl}
theorem regOps_append (reg : List Nat) : ∀ (a b : List Oper), regOps reg (a ++ b) = regOps (regOps reg a) b := by
  intro a
  induction a generalizing reg with
  | nil => intro b; rfl
  | cons o r ih => intro b; exact ih (regOf o.dst reg) b
theorem regAt_succ {i : Nat} {o : Oper} (ho : ops.toList[i]? = some o) : regAt ops (i + 1) = regOf o.dst (regAt ops i) := by
  unfold regAt
  rw [List.take_add_one, ho, regOps_append]
  rfl
theorem fopsOf_get : ∀ (l : List Oper) (reg : List Nat) (i : Nat), (fopsOf Pr D ops nt gl reg l)[i]? = (l[i]?).map fun o => compG Pr D ops nt gl (regOps reg (l.take i)) o
  | [], reg, i => by simp [fopsOf]
  | o :: r, reg, 0 => by simp [fopsOf, regOps]
  | o :: r, reg, i + 1 => by
    have := fopsOf_get r (regOf o.dst reg) i
    simpa [fopsOf, regOps] using this
theorem kds_get {i : Nat} {o : Oper} (ho : ops.toList[i]? = some o) : (kdsOf Pr D nt gl ops)[i]? = some (kdF (foAt Pr D nt gl ops i o)) := by
  unfold kdsOf
  rw [List.getElem?_map, fopsOf_get, ho]
  rfl
theorem eff_get {i : Nat} {o : Oper} (ho : ops.toList[i]? = some o) : effAt (kdsOf Pr D nt gl ops) i = isEff (kdF (foAt Pr D nt gl ops i o)) := by
  unfold effAt
  rw [kds_get ho]
variable {x y : Tc} {i : Nat} {o : Oper}
theorem TrOk.adv (h : TrOk Pr D nt gl ops x i) (ho : ops.toList[i]? = some o) (hst : StepOk Pr D nt gl ops x i o)
    (hrd : ∀ j o, j ≤ i → ops.toList[j]? = some o → kdF (foAt Pr D nt gl ops j o) = .read → ∀ q, q ∈ marks (kdsOf Pr D nt gl ops) (i + 1) → ¬ (j < i ∧ q ∈ marks (kdsOf Pr D nt gl ops) i) →
      cnt (kdsOf Pr D nt gl ops) j ≤ cnt (kdsOf Pr D nt gl ops) q + backAt Pr D nt gl ops j → cnt (kdsOf Pr D nt gl ops) q ≤ cnt (kdsOf Pr D nt gl ops) j + fwdAt Pr D nt gl ops j →
      valG (foAt Pr D nt gl ops j o) (x.T j) (x.F j) (x.H q) = x.V j) : TrOk Pr D nt gl ops x (i + 1) where
  step := fun j o' hj ho' => by
    rcases Nat.lt_or_ge j i with h1 | h1
    · exact h.step j o' h1 ho'
    · have : j = i := by omega
      subst this
      rw [ho] at ho'
      simp only [Option.some.injEq] at ho'; subst ho'
      exact hst
  read := fun j o' hj ho' hk q hq h1 h2 => by
    by_cases hc : j < i ∧ q ∈ marks (kdsOf Pr D nt gl ops) i
    · exact h.read j o' hc.1 ho' hk q hc.2 h1 h2
    · exact hrd j o' (by omega) ho' hk q hq hc h1 h2
section
variable (x : Tc) (i : Nat) (t : L) (f : FM.F) (h : HT) (c : Nat) (v : HV) (b : Bool)
theorem Tc.ext_T1 : (x.ext i t f h c v b).T (i + 1) = t := if_neg (by omega)
theorem Tc.ext_F1 : (x.ext i t f h c v b).F (i + 1) = f := if_neg (by omega)
theorem Tc.ext_H1 : (x.ext i t f h c v b).H (i + 1) = h := if_neg (by omega)
theorem Tc.ext_C1 : (x.ext i t f h c v b).C (i + 1) = c := if_neg (by omega)
theorem Tc.ext_T0 : (x.ext i t f h c v b).T i = x.T i := if_pos (Nat.le_refl i)
theorem Tc.ext_F0 : (x.ext i t f h c v b).F i = x.F i := if_pos (Nat.le_refl i)
theorem Tc.ext_H0 : (x.ext i t f h c v b).H i = x.H i := if_pos (Nat.le_refl i)
theorem Tc.ext_C0 : (x.ext i t f h c v b).C i = x.C i := if_pos (Nat.le_refl i)
theorem Tc.ext_V : (x.ext i t f h c v b).V i = v := if_pos rfl
theorem Tc.ext_B : (x.ext i t f h c v b).B i = b := if_pos rfl
theorem Tc.ext_marks {ks : List Kd} : (marks ks i).map (x.ext i t f h c v b).H = (marks ks i).map x.H := List.map_congr_left fun q hq => if_pos (marks_le ks i q hq)
end
theorem marks_no {ks : List Kd} (h : effAt ks i = false) : marks ks (i + 1) = marks ks i ∧ cnt ks (i + 1) = cnt ks i := by simp [marks, cnt, h]
theorem marks_yes {ks : List Kd} (h : effAt ks i = true) : marks ks (i + 1) = (i + 1) :: marks ks i ∧ cnt ks (i + 1) = cnt ks i + 1 := by simp [marks, cnt, h]
theorem runD_tr (hcl : ClOk Pr D cl) (hseen : ∀ j o, ops.toList[j]? = some o → seen (kdF (foAt Pr D nt gl ops j o)) o = true) :
    ∀ (r : List Oper) (i : Nat) (x : Tc) (hs : List HT) (p : Pend) (t : L) (s : S), ops.toList.drop i = r → hs = (marks (kdsOf Pr D nt gl ops) i).map x.H → PendOk Pr D nt gl ops x i p → TrOk Pr D nt gl ops x i →
      x.T i = t → x.F i = s.f → x.H i = s.h → x.C i = s.c →
      (∀ w, runD cl D (compD gl (ancOf ops) (kdsOf Pr D nt gl ops) i (regAt ops i) (fopsOf Pr D ops nt gl (regAt ops i) r) r) hs p t s ≠ .x w) →
      ∃ y, Same x y i ∧ TrOk Pr D nt gl ops y (i + r.length) ∧ runD cl D (compD gl (ancOf ops) (kdsOf Pr D nt gl ops) i (regAt ops i) (fopsOf Pr D ops nt gl (regAt ops i) r) r) hs p t s = .n (y.T (i + r.length)) ⟨y.F (i + r.length), y.H (i + r.length), y.C (i + r.length)⟩ ∧ y.C (i + r.length) ≤ 4 ^ D := by
  intro r
  induction r with
  | nil =>
    intro i x hs p t s hl hh hp hT h1 h2 h3 h4 hx
    have e : runD cl D (compD gl (ancOf ops) (kdsOf Pr D nt gl ops) i (regAt ops i) (fopsOf Pr D ops nt gl (regAt ops i) []) []) hs p t s = (Nat.ble s.c (Nat.pow 4 D)).casesOn (.x 64) (.n t s) := rfl
    rw [e] at hx ⊢
    cases hb : Nat.ble s.c (Nat.pow 4 D) with
    | false => rw [hb] at hx; exact absurd rfl (hx 64)
    | true =>
      refine ⟨x, ⟨fun _ _ => rfl, fun _ _ => rfl, fun _ _ => rfl, fun _ _ => rfl, fun _ _ => rfl, fun _ _ => rfl⟩, hT, ?_, ?_⟩
      · show R.n t s = _
        simp only [List.length_nil, Nat.add_zero]
        rw [h1, h2, h3, h4]
      · simp only [List.length_nil, Nat.add_zero]
        rw [h4]; exact Nat.le_of_ble_eq_true hb
  | cons o r ih =>
    intro i x hs p t s hl hh hp hT h1 h2 h3 h4 hx
    have ho : ops.toList[i]? = some o := by
      have := congrArg (·[0]?) hl
      simpa using this
    have hr : ops.toList.drop (i + 1) = r := by
      have := congrArg List.tail hl
      simpa using this
    have hreg := regAt_succ ho
    have heff := eff_get (Pr := Pr) (D := D) (nt := nt) (gl := gl) ho
    have hse := hseen i o ho
    have efo : fopsOf Pr D ops nt gl (regAt ops i) (o :: r) = foAt Pr D nt gl ops i o :: fopsOf Pr D ops nt gl (regAt ops (i + 1)) r := by rw [hreg]; rfl
    rw [efo] at hx ⊢
    have go : ∀ (b : Bool) (v : HV) (h' : HT) (c' : Nat) (hs' : List HT) (p' : Pend), StepOk Pr D nt gl ops (x.ext i (putT (dstP gl o.dst) v t) (putF (dstP gl o.dst) v s.f) h' c' v b) i o →
        hs' = (marks (kdsOf Pr D nt gl ops) (i + 1)).map (x.ext i (putT (dstP gl o.dst) v t) (putF (dstP gl o.dst) v s.f) h' c' v b).H →
        PendOk Pr D nt gl ops (x.ext i (putT (dstP gl o.dst) v t) (putF (dstP gl o.dst) v s.f) h' c' v b) (i + 1) p' →
        TrOk Pr D nt gl ops (x.ext i (putT (dstP gl o.dst) v t) (putF (dstP gl o.dst) v s.f) h' c' v b) (i + 1) →
        (∀ w, runD cl D (compD gl (ancOf ops) (kdsOf Pr D nt gl ops) (i + 1) (regAt ops (i + 1)) (fopsOf Pr D ops nt gl (regAt ops (i + 1)) r) r) hs' p' (putT (dstP gl o.dst) v t) ⟨putF (dstP gl o.dst) v s.f, h', c'⟩ ≠ .x w) →
        ∃ y, Same x y i ∧ TrOk Pr D nt gl ops y (i + (o :: r).length) ∧ runD cl D (compD gl (ancOf ops) (kdsOf Pr D nt gl ops) (i + 1) (regAt ops (i + 1)) (fopsOf Pr D ops nt gl (regAt ops (i + 1)) r) r) hs' p' (putT (dstP gl o.dst) v t) ⟨putF (dstP gl o.dst) v s.f, h', c'⟩ = .n (y.T (i + (o :: r).length)) ⟨y.F (i + (o :: r).length), y.H (i + (o :: r).length), y.C (i + (o :: r).length)⟩ ∧ y.C (i + (o :: r).length) ≤ 4 ^ D := by
      intro b v h' c' hs' p' q1 q2 q3 q4 q5
      obtain ⟨y, k1, k2, k3⟩ := ih (i + 1) _ hs' p' _ ⟨putF (dstP gl o.dst) v s.f, h', c'⟩ hr q2 q3 q4 (Tc.ext_T1 ..) (Tc.ext_F1 ..) (Tc.ext_H1 ..) (Tc.ext_C1 ..) q5
      rw [show i + (o :: r).length = i + 1 + r.length by simp; omega]
      exact ⟨y, (Tc.ext_same x i _ _ _ _ _ _).trans k1 (by omega), k2, k3⟩
    have mk : ∀ (b : Bool) (v : HV) (h' : HT) (c' : Nat), dstOk nt o.dst = true → GuardIs ops gl (regAt ops i) t s.f o b → v ≠ .dead → s.c ≤ c' → (b = false → v = .und ∧ h' = s.h ∧ c' = s.c) → (b = true → OpW Pr D gl (regAt ops i) o t s.f s.h s.c v h' c') →
        (light (foAt Pr D nt gl ops i o) = true → v = valG (foAt Pr D nt gl ops i o) t s.f s.h ∧ h' = s.h ∧ c' = s.c) →
        (kdF (foAt Pr D nt gl ops i o) = .new → b = true → ∃ q, c' = s.c + 1 ∧ s.c < 4 ^ D ∧ h' = HT.set D s.c (.own 0 q) s.h ∧ OpW Pr D gl (regAt ops i) o t s.f .nil s.c v (HT.set D s.c (.own 0 q) .nil) (s.c + 1)) →
        (kdF (foAt Pr D nt gl ops i o) = .new ∨ kdF (foAt Pr D nt gl ops i o) = .eff → underA s.c (evs (chkAt Pr D nt gl ops i o) t s.f) = true) →
        StepOk Pr D nt gl ops (x.ext i (putT (dstP gl o.dst) v t) (putF (dstP gl o.dst) v s.f) h' c' v b) i o := by
      intro b v h' c' k1 k2 k3 k0 k4 k5 k6 k7 k8
      constructor
      · exact k1
      · rw [Tc.ext_T0, Tc.ext_F0, Tc.ext_B, h1, h2]; exact k2
      · rw [Tc.ext_V]; exact k3
      · rw [Tc.ext_C1, Tc.ext_C0, h4]; exact k0
      · rw [Tc.ext_T1, Tc.ext_T0, Tc.ext_V, h1]
      · rw [Tc.ext_F1, Tc.ext_F0, Tc.ext_V, h2]
      · rw [Tc.ext_B, Tc.ext_V, Tc.ext_H1, Tc.ext_H0, Tc.ext_C1, Tc.ext_C0, h3, h4]; exact k4
      · rw [Tc.ext_B, Tc.ext_V, Tc.ext_H1, Tc.ext_H0, Tc.ext_C1, Tc.ext_C0, Tc.ext_T0, Tc.ext_F0, h1, h2, h3, h4]; exact k5
      · rw [Tc.ext_V, Tc.ext_H1, Tc.ext_H0, Tc.ext_C1, Tc.ext_C0, Tc.ext_T0, Tc.ext_F0, h1, h2, h3, h4]; exact k6
      · rw [Tc.ext_B, Tc.ext_V, Tc.ext_H1, Tc.ext_H0, Tc.ext_C1, Tc.ext_C0, Tc.ext_T0, Tc.ext_F0, h1, h2, h3, h4]; exact k7
      · rw [Tc.ext_C0, Tc.ext_T0, Tc.ext_F0, h1, h2, h4]; exact k8
    have sm : ∀ b v h' c', Same x (x.ext i (putT (dstP gl o.dst) v t) (putF (dstP gl o.dst) v s.f) h' c' v b) i := fun b v h' c' => Tc.ext_same _ _ _ _ _ _ _ _
    have pend0 : ∀ b v h' c', effAt (kdsOf Pr D nt gl ops) i = false → kdF (foAt Pr D nt gl ops i o) ≠ .read → PendOk Pr D nt gl ops (x.ext i (putT (dstP gl o.dst) v t) (putF (dstP gl o.dst) v s.f) h' c' v b) (i + 1) p := by
      intro b v h' c' hne hk j o' hj ho' hk' hlt
      rw [(marks_no hne).2] at hlt ⊢
      rcases Nat.lt_or_ge j i with q | q
      · exact (hp.same (sm b v h' c')) j o' q ho' hk' hlt
      · have : j = i := by omega
        subst this
        rw [ho] at ho'
        simp only [Option.some.injEq] at ho'; subst ho'
        exact absurd hk' hk
    have tr0 : ∀ b v h' c', effAt (kdsOf Pr D nt gl ops) i = false → kdF (foAt Pr D nt gl ops i o) ≠ .read → StepOk Pr D nt gl ops (x.ext i (putT (dstP gl o.dst) v t) (putF (dstP gl o.dst) v s.f) h' c' v b) i o →
        TrOk Pr D nt gl ops (x.ext i (putT (dstP gl o.dst) v t) (putF (dstP gl o.dst) v s.f) h' c' v b) (i + 1) := by
      intro b v h' c' hne hk hst
      refine (hT.same (sm b v h' c')).adv ho hst fun j o' hj ho' hk' q hq hnot _ _ => ?_
      rw [(marks_no hne).1] at hq
      rcases Nat.lt_or_ge j i with q' | q'
      · exact absurd ⟨q', hq⟩ hnot
      · have : j = i := by omega
        subst this
        rw [ho] at ho'
        simp only [Option.some.injEq] at ho'; subst ho'
        exact absurd hk' hk
    generalize hfo : foAt Pr D nt gl ops i o = fo at *
    have hfo' : compG Pr D ops nt gl (regAt ops i) o = fo := hfo
    cases hk : kdF fo with
    | pure =>
      have hne : effAt (kdsOf Pr D nt gl ops) i = false := by rw [heff, hk]; rfl
      have ed : compD gl (ancOf ops) (kdsOf Pr D nt gl ops) i (regAt ops i) (fo :: fopsOf Pr D ops nt gl (regAt ops (i + 1)) r) (o :: r) = .pure fo (compD gl (ancOf ops) (kdsOf Pr D nt gl ops) (i + 1) (regAt ops (i + 1)) (fopsOf Pr D ops nt gl (regAt ops (i + 1)) r) r) := by
        simp only [compD, hk, hreg]
      rw [ed] at hx ⊢
      have er : ∀ R', runD cl D (.pure fo R') hs p t s = exec cl fo (runD cl D R' hs p) t s := fun _ => rfl
      rw [er] at hx ⊢
      rw [← hfo'] at hx
      obtain ⟨b, v, h', c', k1, k2, k3, k4, k5, k6, k7⟩ := compG_ok hcl hx
      rw [k4] at hx
      rw [hfo'] at k4 k7
      rw [k4]
      have st := mk b v h' c' k1 k2 k3 (by rw [(k7 (by rw [light_kd, hk]; simp)).2.2.1]; exact Nat.le_refl _) k6 k5 (fun e => ⟨(k7 e).1, (k7 e).2.1, (k7 e).2.2.1⟩) (fun e => by rw [hk] at e; cases e) (fun e => by rw [hk] at e; rcases e with e | e <;> cases e)
      exact go b v h' c' hs p st (by rw [(marks_no hne).1, Tc.ext_marks]; exact hh) (pend0 b v h' c' hne (by rw [hk]; simp)) (tr0 b v h' c' hne (by rw [hk]; simp) st) hx
    | new =>
      have hne : effAt (kdsOf Pr D nt gl ops) i = false := by rw [heff, hk]; rfl
      have ed : compD gl (ancOf ops) (kdsOf Pr D nt gl ops) i (regAt ops i) (fo :: fopsOf Pr D ops nt gl (regAt ops (i + 1)) r) (o :: r) = .new fo (chkAt Pr D nt gl ops i o) (compD gl (ancOf ops) (kdsOf Pr D nt gl ops) (i + 1) (regAt ops (i + 1)) (fopsOf Pr D ops nt gl (regAt ops (i + 1)) r) r) := by
        simp only [compD, hk, hreg]; rfl
      rw [ed] at hx ⊢
      have er : ∀ R', runD cl D (.new fo (chkAt Pr D nt gl ops i o) R') hs p t s = (underA s.c (evs (chkAt Pr D nt gl ops i o) t s.f)).casesOn (.x 61) (exec cl fo (runD cl D R' hs p) t s) := fun _ => rfl
      rw [er] at hx ⊢
      cases hu : underA s.c (evs (chkAt Pr D nt gl ops i o) t s.f) with
      | false => rw [hu] at hx; exact absurd rfl (hx 61)
      | true =>
        rw [hu] at hx
        simp only at hx ⊢
        rw [← hfo'] at hx
        have hds : o.dst.isSome = true := by rw [hk] at hse; exact hse
        obtain ⟨b, v, h', c', k1, k2, k3, k4, k5, k6, k7⟩ := compG_new hcl hds (by rw [hfo']; exact hk) hx
        rw [k4] at hx
        rw [hfo'] at k4
        rw [k4]
        have st := mk b v h' c' k1 k2 k3 (by cases b with | false => rw [(k6 rfl).2.2]; exact Nat.le_refl _ | true => obtain ⟨_, e, _⟩ := k7 rfl; omega) k6 k5 (fun e => by rw [light_kd, hk] at e; rcases e with e | e <;> cases e) (fun _ => k7) (fun _ => hu)
        exact go b v h' c' hs p st (by rw [(marks_no hne).1, Tc.ext_marks]; exact hh) (pend0 b v h' c' hne (by rw [hk]; simp)) (tr0 b v h' c' hne (by rw [hk]; simp) st) hx
    | read =>
      have hne : effAt (kdsOf Pr D nt gl ops) i = false := by rw [heff, hk]; rfl
      have ed : compD gl (ancOf ops) (kdsOf Pr D nt gl ops) i (regAt ops i) (fo :: fopsOf Pr D ops nt gl (regAt ops (i + 1)) r) (o :: r) = .read fo (backAt Pr D nt gl ops i) (fwdAt Pr D nt gl ops i) (compD gl (ancOf ops) (kdsOf Pr D nt gl ops) (i + 1) (regAt ops (i + 1)) (fopsOf Pr D ops nt gl (regAt ops (i + 1)) r) r) := by
        simp only [compD, hk, hreg]; rfl
      rw [ed] at hx ⊢
      have hds : o.dst.isSome = true := by rw [hk] at hse; exact hse
      generalize compD gl (ancOf ops) (kdsOf Pr D nt gl ops) (i + 1) (regAt ops (i + 1)) (fopsOf Pr D ops nt gl (regAt ops (i + 1)) r) r = R' at *
      have er : runD cl D (.read fo (backAt Pr D nt gl ops i) (fwdAt Pr D nt gl ops i) R') hs p t s = exec cl fo (fun t' s' => (same (fun h => vEq (hd t') (valG fo t s.f h)) (Nat.succ (backAt Pr D nt gl ops i)) hs).casesOn (.x 60)
        (runD cl D R' hs (Nat.casesOn (fwdAt Pr D nt gl ops i) p fun n => .cons (Nat.succ n) (fun h => vEq (hd t') (valG fo t s.f h)) p) t' s')) t s := rfl
      rw [er] at hx ⊢
      rw [← hfo'] at hx
      obtain ⟨b, v, h', c', k1, k2, k3, k4, k5, k6, k7⟩ := compG_ok hcl hx
      rw [k4] at hx
      rw [hfo'] at k4 k7 hx
      rw [k4]
      have ehd : hd (putT (dstP gl o.dst) v t) = v := by rw [putT_some hds]; rfl
      simp only [ehd] at hx ⊢
      cases hsm : same (fun h => vEq v (valG fo t s.f h)) (Nat.succ (backAt Pr D nt gl ops i)) hs with
      | false => rw [hsm] at hx; exact absurd rfl (hx 60)
      | true =>
        rw [hsm] at hx
        simp only at hx ⊢
        have st := mk b v h' c' k1 k2 k3 (by rw [(k7 (by rw [light_kd, hk]; simp)).2.2.1]; exact Nat.le_refl _) k6 k5 (fun e => ⟨(k7 e).1, (k7 e).2.1, (k7 e).2.2.1⟩) (fun e => by rw [hk] at e; cases e) (fun e => by rw [hk] at e; rcases e with e | e <;> cases e)
        refine go b v h' c' hs _ st (by rw [(marks_no hne).1, Tc.ext_marks]; exact hh) ?_ ?_ hx
        · intro j o' hj ho' hk' hlt
          rw [(marks_no hne).2] at hlt ⊢
          rcases Nat.lt_or_ge j i with q | q
          · have := (hp.same (sm b v h' c')) j o' q ho' hk' hlt
            cases fwdAt Pr D nt gl ops i with
            | zero => exact this
            | succ n => exact .inr this
          · have : j = i := by omega
            subst this
            rw [ho] at ho'
            simp only [Option.some.injEq] at ho'; subst ho'
            rw [Tc.ext_V, Tc.ext_T0, Tc.ext_F0, h1, h2, hfo]
            generalize hfw : fwdAt Pr D nt gl ops j = fw at *
            cases fw with
            | zero => omega
            | succ n => exact .inl ⟨by omega, rfl⟩
        · refine (hT.same (sm b v h' c')).adv ho st fun j o' hj ho' hk' q hq hnot q1 q2 => ?_
          rw [(marks_no hne).1] at hq
          rcases Nat.lt_or_ge j i with q' | q'
          · exact absurd ⟨q', hq⟩ hnot
          · have : j = i := by omega
            subst this
            rw [ho] at ho'
            simp only [Option.some.injEq] at ho'; subst ho'
            rw [Tc.ext_V, Tc.ext_T0, Tc.ext_F0, h1, h2, hfo, (sm b v h' c').H q (marks_le _ _ _ hq)]
            have hget : hs[cnt (kdsOf Pr D nt gl ops) j - cnt (kdsOf Pr D nt gl ops) q]? = some (x.H q) := by rw [hh, List.getElem?_map, marks_at _ _ _ hq]; rfl
            exact (vEq_eq (same_get _ _ _ hsm _ _ (by omega) hget)).symm
    | eff =>
      have hye : effAt (kdsOf Pr D nt gl ops) i = true := by rw [heff, hk]; rfl
      have ed : compD gl (ancOf ops) (kdsOf Pr D nt gl ops) i (regAt ops i) (fo :: fopsOf Pr D ops nt gl (regAt ops (i + 1)) r) (o :: r) = .eff fo (chkAt Pr D nt gl ops i o) (compD gl (ancOf ops) (kdsOf Pr D nt gl ops) (i + 1) (regAt ops (i + 1)) (fopsOf Pr D ops nt gl (regAt ops (i + 1)) r) r) := by
        simp only [compD, hk, hreg]; rfl
      rw [ed] at hx ⊢
      generalize compD gl (ancOf ops) (kdsOf Pr D nt gl ops) (i + 1) (regAt ops (i + 1)) (fopsOf Pr D ops nt gl (regAt ops (i + 1)) r) r = R' at *
      have er : runD cl D (.eff fo (chkAt Pr D nt gl ops i o) R') hs p t s = (underA s.c (evs (chkAt Pr D nt gl ops i o) t s.f)).casesOn (.x 62) (exec cl fo (fun t' s' => (pAll s'.h p && Nat.ble s.c s'.c).casesOn (.x 63) (runD cl D R' (s'.h :: hs) (pNext p) t' s')) t s) := rfl
      rw [er] at hx ⊢
      cases hu : underA s.c (evs (chkAt Pr D nt gl ops i o) t s.f) with
      | false => rw [hu] at hx; exact absurd rfl (hx 62)
      | true =>
        rw [hu] at hx
        simp only at hx ⊢
        rw [← hfo'] at hx
        obtain ⟨b, v, h', c', k1, k2, k3, k4, k5, k6, k7⟩ := compG_ok hcl hx
        rw [k4] at hx
        rw [hfo'] at k4 k7
        rw [k4]
        simp only at hx ⊢
        cases hpb : (pAll h' p && Nat.ble s.c c') with
        | false => rw [hpb] at hx; exact absurd rfl (hx 63)
        | true =>
          rw [hpb] at hx
          have hpc := hpb
          simp only [Bool.and_eq_true] at hpc
          obtain ⟨hpa, hle⟩ := hpc
          have hle := Nat.le_of_ble_eq_true hle
          simp only at hx ⊢
          have st := mk b v h' c' k1 k2 k3 hle k6 k5 (fun e => ⟨(k7 e).1, (k7 e).2.1, (k7 e).2.2.1⟩) (fun e => by rw [hk] at e; cases e) (fun _ => hu)
          refine go b v h' c' (h' :: hs) (pNext p) st (by rw [(marks_yes hye).1, List.map_cons, Tc.ext_marks, Tc.ext_H1, hh]) ?_ ?_ hx
          · intro j o' hj ho' hk' hlt
            rw [(marks_yes hye).2] at hlt ⊢
            rcases Nat.lt_or_ge j i with q | q
            · have := (hp.same (sm b v h' c')) j o' q ho' hk' (by omega)
              rw [show cnt (kdsOf Pr D nt gl ops) j + fwdAt Pr D nt gl ops j - cnt (kdsOf Pr D nt gl ops) i = (cnt (kdsOf Pr D nt gl ops) j + fwdAt Pr D nt gl ops j - (cnt (kdsOf Pr D nt gl ops) i + 1)) + 1 by omega] at this
              rcases pNext_has this with e | e
              · exact e
              · omega
            · have : j = i := by omega
              subst this
              rw [ho] at ho'
              simp only [Option.some.injEq] at ho'; subst ho'
              rw [hfo, hk] at hk'; cases hk'
          · refine (hT.same (sm b v h' c')).adv ho st fun j o' hj ho' hk' q hq hnot q1 q2 => ?_
            rw [(marks_yes hye).1] at hq
            rcases Nat.lt_or_ge j i with q' | q'
            · rcases List.mem_cons.1 hq with e | e
              · subst e
                rw [(marks_yes hye).2] at q2
                have := (hp.same (sm b v h' c')) j o' q' ho' hk' (by omega)
                rw [show cnt (kdsOf Pr D nt gl ops) j + fwdAt Pr D nt gl ops j - cnt (kdsOf Pr D nt gl ops) i = (cnt (kdsOf Pr D nt gl ops) j + fwdAt Pr D nt gl ops j - (cnt (kdsOf Pr D nt gl ops) i + 1)) + 1 by omega] at this
                have := pAll_has hpa this
                rw [Tc.ext_H1]
                exact (vEq_eq this).symm
              · exact absurd ⟨q', e⟩ hnot
            · have : j = i := by omega
              subst this
              rw [ho] at ho'
              simp only [Option.some.injEq] at ho'; subst ho'
              rw [hfo, hk] at hk'; cases hk'
end
end
end Go.FM
end

section
namespace Go.FM
noncomputable section
variable [Env]
section
variable {Pr : Program} {D nt gl : Nat} {ops : Array Oper} {A : List Nat}
theorem okRow_get {j : Nat} {kj : Kd} {oj : Oper} : ∀ {l : List (Kd × Oper)} {i0 : Nat}, okRow ops A j kj oj i0 l = true → ∀ i ki oi, l[i]? = some (ki, oi) → i0 + i < j → okPair ops A (i0 + i) ki oi j kj oj = true
  | [], i0, _, i, ki, oi, hg, _ => by simp at hg
  | (k, o) :: r, i0, h, i, ki, oi, hg, hlt => by
    have e : okRow ops A j kj oj i0 ((k, o) :: r) = (Nat.blt i0 j).casesOn (motive := fun _ => Bool) true (okPair ops A i0 k o j kj oj && okRow ops A j kj oj (i0 + 1) r) := rfl
    rw [e] at h
    have hb : Nat.blt i0 j = true := Nat.ble_eq_true_of_le (by omega : i0 + 1 ≤ j)
    rw [hb] at h
    simp only [Bool.and_eq_true] at h
    cases i with
    | zero => simp at hg; obtain ⟨rfl, rfl⟩ := hg; exact h.1
    | succ i =>
      have := okRow_get h.2 i ki oi (by simpa using hg) (by omega)
      rw [show i0 + (i + 1) = i0 + 1 + i by omega]; exact this
theorem okRows_get {all : List (Kd × Oper)} : ∀ {l : List (Kd × Oper)} {j0 : Nat}, okRows ops A all j0 l = true → ∀ j kj oj, l[j]? = some (kj, oj) → low (j0 + j) oj.after.toList = true ∧ seen kj oj = true ∧ okRow ops A (j0 + j) kj oj 0 all = true
  | [], j0, _, j, kj, oj, hg => by simp at hg
  | (k, o) :: r, j0, h, j, kj, oj, hg => by
    simp only [okRows, Bool.and_eq_true] at h
    cases j with
    | zero => simp at hg; obtain ⟨rfl, rfl⟩ := hg; exact ⟨h.1.1.1, h.1.1.2, h.1.2⟩
    | succ j =>
      have := okRows_get h.2 j kj oj (by simpa using hg)
      rw [show j0 + (j + 1) = j0 + 1 + j by omega]; exact this
theorem ancE_get {B : List Nat} : ∀ {es : List Edge} {i : Nat}, Nat.testBit (ancE B es) i = true → ∃ e, e ∈ es ∧ Region.binds .any e = true ∧ (e.on = i ∨ Nat.testBit (natAt B e.on) i = true)
  | [], i, h => by simp [ancE] at h
  | e :: r, i, h => by
    simp only [ancE] at h
    split at h
    · rename_i hb
      have e1 : ∀ a b : Nat, Nat.lor a b = a ||| b := fun _ _ => rfl
      have e2 : Nat.pow 2 e.on = 2 ^ e.on := rfl
      rw [e1, e1, e2, Nat.testBit_or, Nat.testBit_or, Nat.testBit_two_pow, Bool.or_eq_true, Bool.or_eq_true, decide_eq_true_eq] at h
      rcases h with h | h
      · exact ⟨e, by simp, hb, h⟩
      · obtain ⟨e', h1, h2⟩ := ancE_get h
        exact ⟨e', by simp [h1], h2⟩
    · obtain ⟨e', h1, h2⟩ := ancE_get h
      exact ⟨e', by simp [h1], h2⟩
theorem natAt_eq : ∀ (l : List Nat) (i : Nat), natAt l i = l.getD i 0
  | [], i => by cases i <;> simp [natAt]
  | a :: r, 0 => by simp [natAt]
  | a :: r, i + 1 => by simpa [natAt] using natAt_eq r i
theorem ancs_pre : ∀ (l : List Oper) (A : List Nat), ∃ B, ancs A l = A ++ B
  | [], A => ⟨[], by simp [ancs]⟩
  | o :: r, A => by
    obtain ⟨B, h⟩ := ancs_pre r (A ++ [ancE A o.after.toList])
    exact ⟨ancE A o.after.toList :: B, by simp [ancs, h]⟩
theorem ancs_get : ∀ (l : List Oper) (A : List Nat) (j : Nat) (o : Oper), l[j]? = some o → ∃ B, B.length = A.length + j ∧ (∀ k, k < B.length → natAt B k = natAt (ancs A l) k) ∧ natAt (ancs A l) (A.length + j) = ancE B o.after.toList
  | [], A, j, o, h => by simp at h
  | x :: r, A, 0, o, h => by
    simp at h; subst h
    obtain ⟨B, hB⟩ := ancs_pre r (A ++ [ancE A x.after.toList])
    refine ⟨A, by simp, fun k hk => ?_, ?_⟩
    · show _ = natAt (ancs (A ++ [ancE A x.after.toList]) r) k
      rw [hB, natAt_eq, natAt_eq]
      simp [List.getElem?_append, hk]
    · show natAt (ancs (A ++ [ancE A x.after.toList]) r) _ = _
      rw [hB, natAt_eq]
      simp
  | x :: r, A, j + 1, o, h => by
    obtain ⟨B, h1, h2, h3⟩ := ancs_get r (A ++ [ancE A x.after.toList]) j o (by simpa using h)
    simp only [List.length_append, List.length_cons, List.length_nil] at h1 h3
    exact ⟨B, by omega, h2, by rw [show A.length + (j + 1) = A.length + (0 + 1) + j by omega]; exact h3⟩
theorem cntE_mono {p q : Nat → Bool} : ∀ (l : List Kd) (i0 : Nat), (∀ k, l[k]? = some .eff → p (i0 + k) = true → q (i0 + k) = true) → cntE p i0 l ≤ cntE q i0 l
  | [], i0, _ => Nat.le_refl _
  | k :: r, i0, h => by
    have ih := cntE_mono r (i0 + 1) fun k hk hp => by
      have := h (k + 1) (by simpa using hk)
      rw [show i0 + (k + 1) = i0 + 1 + k by omega] at this
      exact this hp
    cases k with
    | eff =>
      have e : ∀ p : Nat → Bool, cntE p i0 (.eff :: r) = (p i0).casesOn (motive := fun _ => Nat) (cntE p (i0 + 1) r) (Nat.succ (cntE p (i0 + 1) r)) := fun _ => rfl
      rw [e, e]
      have h0 := h 0 rfl
      simp only [Nat.add_zero] at h0
      cases hp : p i0 with
      | false => cases q i0 <;> simp <;> omega
      | true => rw [h0 hp]; simp; omega
    | _ => exact ih
theorem cntE_step : ∀ (l : List Kd) (i0 p : Nat), cntE (fun j => Nat.blt j (i0 + p + 1)) i0 l = cntE (fun j => Nat.blt j (i0 + p)) i0 l + (if effAt l p then 1 else 0)
  | [], i0, p => by simp [cntE, effAt]
  | k :: r, i0, p => by
    have hb : ∀ a b : Nat, Nat.blt a b = decide (a < b) := fun a b => by
      cases h : Nat.blt a b with
      | true => simp [show a < b from Nat.le_of_ble_eq_true h]
      | false =>
        simp
        have := fun h' : a < b => (Nat.ble_eq_true_of_le h' : Nat.ble (a + 1) b = true)
        rcases Nat.lt_or_ge a b with q | q
        · have h2 : Nat.blt a b = true := this q
          rw [h] at h2; cases h2
        · exact q
    have zero : ∀ (l : List Kd) (i0 m : Nat), m ≤ i0 → cntE (fun j => Nat.blt j m) i0 l = 0 := by
      intro l
      induction l with
      | nil => intro i0 m _; rfl
      | cons k r ih =>
        intro i0 m hm
        cases k with
        | eff =>
          show (Nat.blt i0 m).casesOn (motive := fun _ => Nat) (cntE (fun j => Nat.blt j m) (i0 + 1) r) _ = 0
          rw [hb, decide_eq_false (by omega)]
          exact ih (i0 + 1) m (by omega)
        | _ => exact ih (i0 + 1) m (by omega)
    cases p with
    | zero =>
      rw [zero (k :: r) i0 (i0 + 0) (by omega)]
      have z := zero r (i0 + 1) (i0 + 0 + 1) (by omega)
      cases k with
      | eff =>
        show (Nat.blt i0 (i0 + 0 + 1)).casesOn (motive := fun _ => Nat) (cntE _ (i0 + 1) r) (Nat.succ (cntE _ (i0 + 1) r)) = _
        rw [hb, decide_eq_true (by omega), z]
        rfl
      | _ => exact z
    | succ p =>
      have ih := cntE_step r (i0 + 1) p
      rw [show i0 + 1 + p + 1 = i0 + (p + 1) + 1 by omega, show i0 + 1 + p = i0 + (p + 1) by omega] at ih
      have ee : effAt (k :: r) (p + 1) = effAt r p := by simp [effAt]
      rw [ee]
      cases k with
      | eff =>
        show (Nat.blt i0 (i0 + (p + 1) + 1)).casesOn (motive := fun _ => Nat) (cntE _ (i0 + 1) r) (Nat.succ (cntE _ (i0 + 1) r)) = (Nat.blt i0 (i0 + (p + 1))).casesOn (motive := fun _ => Nat) (cntE _ (i0 + 1) r) (Nat.succ (cntE _ (i0 + 1) r)) + _
        rw [hb, hb, decide_eq_true (by omega), decide_eq_true (by omega)]
        show Nat.succ (cntE _ (i0 + 1) r) = Nat.succ (cntE _ (i0 + 1) r) + _
        rw [ih]; omega
      | _ => exact ih
theorem cntE_cnt (ks : List Kd) : ∀ p, cntE (fun j => Nat.blt j p) 0 ks = cnt ks p
  | 0 => by
    have : ∀ (l : List Kd) (i0 : Nat), cntE (fun j => Nat.blt j 0) i0 l = 0 := by
      intro l
      induction l with
      | nil => intro i0; rfl
      | cons k r ih =>
        intro i0
        cases k with
        | eff => exact ih (i0 + 1)
        | _ => exact ih (i0 + 1)
    exact this ks 0
  | p + 1 => by
    have := cntE_step ks 0 p
    simp only [Nat.zero_add] at this
    rw [this, cntE_cnt ks p]
    simp only [cnt]
    split <;> rfl
end
end
end Go.FM
end

section
namespace Go.FM
noncomputable section
variable [Env]
structure Stat (Pr : Program) (D nt gl : Nat) (ops : Array Oper) : Prop where
  low : ∀ j o e, ops.toList[j]? = some o → e ∈ o.after.toList → Region.binds .any e = true → e.on < j
  seen : ∀ j o, ops.toList[j]? = some o → seen (kdF (foAt Pr D nt gl ops j o)) o = true
  pair : ∀ i j oi oj, ops.toList[i]? = some oi → ops.toList[j]? = some oj → i < j → Nat.testBit (natAt (ancOf ops) j) i = true ∨
    (meets ops oi oj = false ∧ meets ops oj oi = false ∧ ¬ (kdF (foAt Pr D nt gl ops j oj) = .eff ∧ (kdF (foAt Pr D nt gl ops i oi) = .eff ∨ kdF (foAt Pr D nt gl ops i oi) = .new)))
  anc : ∀ j o i, ops.toList[j]? = some o → Nat.testBit (natAt (ancOf ops) j) i = true → ∃ e, e ∈ o.after.toList ∧ Region.binds .any e = true ∧ (e.on = i ∨ Nat.testBit (natAt (ancOf ops) e.on) i = true)
section
variable {Pr : Program} {D nt gl : Nat} {ops : Array Oper}
theorem zip_get {j : Nat} {o : Oper} (ho : ops.toList[j]? = some o) : ((kdsOf Pr D nt gl ops).zip ops.toList)[j]? = some (kdF (foAt Pr D nt gl ops j o), o) := by
  rw [List.getElem?_zip_eq_some]
  exact ⟨kds_get ho, ho⟩
theorem stat_of (h : okRows ops (ancOf ops) ((kdsOf Pr D nt gl ops).zip ops.toList) 0 ((kdsOf Pr D nt gl ops).zip ops.toList) = true) : Stat Pr D nt gl ops := by
  have row := fun j o (ho : ops.toList[j]? = some o) => okRows_get h j _ _ (zip_get (Pr := Pr) (D := D) (nt := nt) (gl := gl) ho)
  simp only [Nat.zero_add] at row
  have hlow : ∀ j o e, ops.toList[j]? = some o → e ∈ o.after.toList → Region.binds .any e = true → e.on < j := by
    intro j o e ho he hb
    have := (row j o ho).1
    simp only [low, List.all_eq_true] at this
    have := this e he
    rw [if_pos hb] at this
    exact Nat.le_of_ble_eq_true this
  refine ⟨hlow, fun j o ho => (row j o ho).2.1, fun i j oi oj hi hj hlt => ?_, fun j o i ho hb => ?_⟩
  · have := okRow_get (row j oj hj).2.2 i _ _ (zip_get hi) (by omega)
    simp only [Nat.zero_add, okPair, Bool.or_eq_true, Bool.and_eq_true, Bool.not_eq_true', Bool.or_eq_false_iff] at this
    rcases this with h1 | ⟨⟨h1, h2⟩, h3⟩
    · exact .inl h1
    · refine .inr ⟨h1, h2, fun ⟨e1, e2⟩ => ?_⟩
      rw [e1] at h3
      rcases e2 with e2 | e2 <;> rw [e2] at h3 <;> cases h3
  · obtain ⟨B, h1, h2, h3⟩ := ancs_get ops.toList [] j o ho
    simp only [List.length_nil, Nat.zero_add] at h1 h3
    have hb' : Nat.testBit (natAt (ancs [] ops.toList) j) i = true := hb
    rw [h3] at hb'
    obtain ⟨e, q1, q2, q3⟩ := ancE_get hb'
    refine ⟨e, q1, q2, ?_⟩
    rw [h2 e.on (by rw [h1]; exact hlow j o e ho q1 q2)] at q3
    exact q3
def Done (ops : Array Oper) (X : Nat → Prop) : Prop := (∀ i, X i → i < ops.toList.length) ∧ ∀ i o e, X i → ops.toList[i]? = some o → e ∈ o.after.toList → Region.binds .any e = true → X e.on
def Ready (ops : Array Oper) (X : Nat → Prop) (j : Nat) (o : Oper) : Prop := ops.toList[j]? = some o ∧ ¬ X j ∧ ∀ e, e ∈ o.after.toList → Region.binds .any e = true → X e.on
variable {X : Nat → Prop} {x : Tc} {j : Nat} {o : Oper}
theorem Done.get (hd : Done ops X) {i : Nat} (hi : X i) : ∃ o, ops.toList[i]? = some o := ⟨ops.toList[i]'(hd.1 i hi), List.getElem?_eq_getElem _⟩
theorem Done.anc (hst : Stat Pr D nt gl ops) (hd : Done ops X) : ∀ (j : Nat), X j → ∀ i, Nat.testBit (natAt (ancOf ops) j) i = true → X i := by
  intro j
  induction j using Nat.strongRecOn with
  | ind j ih =>
    intro hj i hb
    obtain ⟨o, ho⟩ := hd.get hj
    obtain ⟨e, h1, h2, h3⟩ := hst.anc j o i ho hb
    have hx := hd.2 j o e hj ho h1 h2
    rcases h3 with h3 | h3
    · rw [← h3]; exact hx
    · exact ih e.on (hst.low j o e ho h1 h2) hx i h3
theorem Ready.anc (hst : Stat Pr D nt gl ops) (hd : Done ops X) (hr : Ready ops X j o) {i : Nat} (hb : Nat.testBit (natAt (ancOf ops) j) i = true) : X i := by
  obtain ⟨e, h1, h2, h3⟩ := hst.anc j o i hr.1 hb
  have hx := hr.2.2 e h1 h2
  rcases h3 with h3 | h3
  · rw [← h3]; exact hx
  · exact hd.anc hst _ hx i h3
theorem Ready.done (hd : Done ops X) (hr : Ready ops X j o) : Done ops (fun i => X i ∨ i = j) := by
  refine ⟨fun i hi => ?_, fun i o' e hi ho' he hb => ?_⟩
  · rcases hi with hi | rfl
    · exact hd.1 i hi
    · exact (List.getElem?_eq_some_iff.1 hr.1).1
  · rcases hi with hi | rfl
    · exact .inl (hd.2 i o' e hi ho' he hb)
    · have := hr.1
      rw [ho'] at this
      simp only [Option.some.injEq] at this; subst this
      exact .inl (hr.2.2 e he hb)
theorem Ready.meet (hst : Stat Pr D nt gl ops) (hd : Done ops X) (hr : Ready ops X j o) {i : Nat} {oi : Oper} (hi : ops.toList[i]? = some oi) (hm : meets ops oi o = true ∨ meets ops o oi = true) : (X i → i < j) ∧ (i < j → X i) := by
  constructor
  · intro hx
    rcases Nat.lt_trichotomy i j with h | h | h
    · exact h
    · subst h; exact absurd hx hr.2.1
    · rcases hst.pair j i o oi hr.1 hi h with q | ⟨q1, q2, _⟩
      · exact absurd (hd.anc hst i hx j q) hr.2.1
      · rw [q1, q2] at hm; simp at hm
  · intro h
    rcases hst.pair i j oi o hi hr.1 h with q | ⟨q1, q2, _⟩
    · exact hr.anc hst hd q
    · rw [q1, q2] at hm; simp at hm
def TmpR (gl : Nat) (ops : Array Oper) (x : Tc) (g : Gm) (c m q : Nat) (u : Value) : Prop :=
  (Nat.testBit gl q = true → TRep g c (fget (rank gl q) (x.F m)) u) ∧ ∀ j, idx q (regAt ops m) = some j → TRep g c (lget j (x.T m)) u
variable {g g' : Gm} {c c' m q : Nat} {u : Value}
theorem TmpR.mono' (h : TmpR gl ops x g c m q u) (ha : Agr c g g') (hc : c ≤ c') : TmpR gl ops x g' c' m q u :=
  ⟨fun hb => (h.1 hb).mono' ha hc, fun j hj => (h.2 j hj).mono' ha hc⟩
theorem TmpR.opnd (h : TmpR gl ops x g c m q u) : TRep g c ((opnd gl (regAt ops m) (.tmp q)).ev (x.T m) (x.F m)) u := by
  unfold Go.FM.opnd
  simp only
  cases hi : idx q (regAt ops m) with
  | some j => exact h.2 j hi
  | none =>
    cases hb : Nat.testBit gl q with
    | false => exact trivial
    | true =>
      show TRep g c ((gVar (rank gl q)).ev _ _) u
      rw [gVar_ev]
      exact h.1 hb
theorem TmpR.keep (hgl : GlOk nt gl) (ho : ops.toList[m]? = some o) (hs : StepOk Pr D nt gl ops x m o) (hq : o.dst ≠ some q) (h : TmpR gl ops x g c m q u) : TmpR gl ops x g c (m + 1) q u := by
  unfold TmpR
  rw [regAt_succ ho, hs.t, hs.f]
  cases hd : o.dst with
  | none => exact h
  | some d =>
    have hne : q ≠ d := fun e => hq (by rw [hd, e])
    have hdn : d < nt := by have := hs.dst; rw [hd] at this; exact Nat.le_of_ble_eq_true this
    refine ⟨fun hb => ?_, fun j hj => ?_⟩
    · have h1 := h.1 hb
      have e : dstP gl (some d) = (Nat.testBit gl d).casesOn (motive := fun _ => P) .loc (pVar (rank gl d)) := rfl
      rw [e]
      cases hb2 : Nat.testBit gl d with
      | false => exact h1
      | true =>
        obtain ⟨p, hp, hpv⟩ := pVar_eq (rank gl d)
        show TRep g c (fget (rank gl q) (putF (pVar (rank gl d)) (x.V m) (x.F m))) u
        rw [hp]
        show TRep g c (fget (rank gl q) (p (x.V m) (x.F m))) u
        have r1 : rank gl q < 256 := Nat.lt_of_lt_of_le (rank_lt gl (hgl.2 q hb) hb) hgl.1
        have r2 : rank gl d < 256 := Nat.lt_of_lt_of_le (rank_lt gl hdn hb2) hgl.1
        rw [hpv, fget_fset r1 r2, if_neg fun e => hne (rank_inj gl hb hb2 e)]
        exact h1
    · have hj : idx q (d :: regAt ops m) = some j := hj
      rw [idx_cons, if_neg (fun e => hne e.symm)] at hj
      obtain ⟨j', hj', rfl⟩ := Option.map_eq_some_iff.1 hj
      rw [putT_some rfl]
      exact h.2 j' hj'
theorem TmpR.put (hgl : GlOk nt gl) (ho : ops.toList[m]? = some o) (hs : StepOk Pr D nt gl ops x m o) (hq : o.dst = some q) (h : TRep g c (x.V m) u) : TmpR gl ops x g c (m + 1) q u := by
  unfold TmpR
  rw [regAt_succ ho, hs.t, hs.f, hq]
  have hdn : q < nt := by have := hs.dst; rw [hq] at this; exact Nat.le_of_ble_eq_true this
  refine ⟨fun hb => ?_, fun j hj => ?_⟩
  · have e : dstP gl (some q) = (Nat.testBit gl q).casesOn (motive := fun _ => P) .loc (pVar (rank gl q)) := rfl
    rw [e, hb]
    obtain ⟨p, hp, hpv⟩ := pVar_eq (rank gl q)
    show TRep g c (fget (rank gl q) (putF (pVar (rank gl q)) (x.V m) (x.F m))) u
    rw [hp]
    show TRep g c (fget (rank gl q) (p (x.V m) (x.F m))) u
    have r1 : rank gl q < 256 := Nat.lt_of_lt_of_le (rank_lt gl hdn hb) hgl.1
    rw [hpv, fget_fset r1 r1, if_pos rfl]
    exact h
  · have hj : idx q (q :: regAt ops m) = some j := hj
    rw [idx_cons, if_pos rfl] at hj
    simp only [Option.some.injEq] at hj; subst hj
    rw [putT_some rfl]
    exact h
theorem TmpR.keeps (hgl : GlOk nt gl) {n : Nat} (hT : TrOk Pr D nt gl ops x n) (hn : n ≤ ops.toList.length) (h : TmpR gl ops x g c m q u) (k : Nat) (hk : m + k ≤ n) (hw : ∀ i o, m ≤ i → i < m + k → ops.toList[i]? = some o → o.dst ≠ some q) : TmpR gl ops x g c (m + k) q u := by
  induction k with
  | zero => exact h
  | succ k ih =>
    have ih := ih (Nat.le_of_succ_le hk) fun i o h1 h2 => hw i o h1 (Nat.lt_succ_of_lt h2)
    have hlt : m + k < ops.toList.length := Nat.lt_of_lt_of_le hk hn
    have ho := List.getElem?_eq_getElem hlt
    exact ih.keep hgl ho (hT.step _ _ hk ho) (hw _ _ (Nat.le_add_right m k) (Nat.lt_succ_self _) ho)
def TmpsOk (nt gl : Nat) (ops : Array Oper) (X : Nat → Prop) (x : Tc) (g : Gm) (c : Nat) (a : Act) : Prop :=
  ∀ q, q < nt → ∃ m, m ≤ ops.toList.length ∧ (m = 0 ∨ ∃ i o, m = i + 1 ∧ X i ∧ ops.toList[i]? = some o ∧ o.dst = some q) ∧ (∀ i o, X i → ops.toList[i]? = some o → o.dst = some q → i < m) ∧ TmpR gl ops x g c m q (a.tmps.getD q undef)
theorem TmpsOk.mono' {a : Act} (h : TmpsOk nt gl ops X x g c a) (ha : Agr c g g') (hc : c ≤ c') : TmpsOk nt gl ops X x g' c' a := by
  intro q hq
  obtain ⟨m, h1, h2, h3, h4⟩ := h q hq
  exact ⟨m, h1, h2, h3, h4.mono' ha hc⟩
theorem dst_meets {oi oj : Oper} {q : Nat} (hi : oi.dst = some q) (hj : oj.dst = some q ∨ q ∈ usesOf ops oj) : meets ops oi oj = true := by
  unfold meets
  rw [hi]
  rcases hj with hj | hj
  · simp [hj]
  · simp [hj]
theorem TmpsOk.reads {a : Act} (hst : Stat Pr D nt gl ops) (hd : Done ops X) (hr : Ready ops X j o) (hgl : GlOk nt gl) (hT : TrOk Pr D nt gl ops x ops.toList.length) (h : TmpsOk nt gl ops X x g c a) (hq : q < nt) (hu : q ∈ usesOf ops o) :
    TmpR gl ops x g c j q (a.tmps.getD q undef) := by
  obtain ⟨m, h1, h2, h3, h4⟩ := h q hq
  have hjl : j < ops.toList.length := (List.getElem?_eq_some_iff.1 hr.1).1
  have hle : m ≤ j := by
    rcases h2 with rfl | ⟨i, oi, rfl, hx, hi, hdi⟩
    · omega
    · exact (hr.meet hst hd hi (.inl (dst_meets hdi (.inr hu)))).1 hx
  have := h4.keeps hgl hT (Nat.le_refl _) (j - m) (by omega) fun i oi q1 q2 q3 q4 => by
    have hx := (hr.meet hst hd q3 (.inl (dst_meets q4 (.inr hu)))).2 (by omega)
    have := h3 i oi hx q3 q4
    omega
  rw [show m + (j - m) = j by omega] at this
  exact this
theorem TmpsOk.put {a : Act} (hst : Stat Pr D nt gl ops) (hd : Done ops X) (hr : Ready ops X j o) (hgl : GlOk nt gl) (hT : TrOk Pr D nt gl ops x ops.toList.length) (hsz : a.tmps.size = nt) (h : TmpsOk nt gl ops X x g c a) (hv : TRep g c (x.V j) u) :
    TmpsOk nt gl ops (fun i => X i ∨ i = j) x g c (a.put o.dst u) := by
  intro q hq
  obtain ⟨m, h1, h2, h3, h4⟩ := h q hq
  have hjl : j < ops.toList.length := (List.getElem?_eq_some_iff.1 hr.1).1
  by_cases hdq : o.dst = some q
  · refine ⟨j + 1, hjl, .inr ⟨j, o, rfl, .inr rfl, hr.1, hdq⟩, fun i oi hi hoi hdi => ?_, ?_⟩
    · rcases hi with hi | rfl
      · have := (hr.meet hst hd hoi (.inl (dst_meets hdi (.inl hdq)))).1 hi
        omega
      · omega
    · have e : (a.put o.dst u).tmps.getD q undef = u := by rw [hdq, put_tmps, if_pos ⟨rfl, by rw [hsz]; exact hq⟩]
      rw [e]
      exact TmpR.put hgl hr.1 (hT.step j o hjl hr.1) hdq hv
  · refine ⟨m, h1, ?_, fun i oi hi hoi hdi => ?_, ?_⟩
    · rcases h2 with h2 | ⟨i, oi, e, hx, q1, q2⟩
      · exact .inl h2
      · exact .inr ⟨i, oi, e, .inl hx, q1, q2⟩
    · rcases hi with hi | rfl
      · exact h3 i oi hi hoi hdi
      · have := hr.1
        rw [hoi] at this
        simp only [Option.some.injEq] at this; subst this
        exact absurd hdi hdq
    · have e : (a.put o.dst u).tmps.getD q undef = a.tmps.getD q undef := by
        cases hdd : o.dst with
        | none => rfl
        | some d => rw [put_tmps, if_neg fun e => hdq (by rw [hdd, e.1])]
      rw [e]; exact h4
theorem TmpsOk.all {a : Act} (hgl : GlOk nt gl) (hT : TrOk Pr D nt gl ops x ops.toList.length) (hall : ∀ i, i < ops.toList.length → X i) (h : TmpsOk nt gl ops X x g c a) (hsz : a.tmps.size = nt) (hdef : a.defers = []) (hreg : ∀ q j, idx q (regAt ops ops.toList.length) = some j → q < nt) :
    SRel nt gl (regAt ops ops.toList.length) g c (x.T ops.toList.length) (x.F ops.toList.length) a := by
  have key : ∀ q, q < nt → TmpR gl ops x g c ops.toList.length q (a.tmps.getD q undef) := by
    intro q hq
    obtain ⟨m, h1, h2, h3, h4⟩ := h q hq
    have := h4.keeps hgl hT (Nat.le_refl _) (ops.toList.length - m) (by omega) fun i oi q1 q2 q3 q4 => by
      have := h3 i oi (hall i (by omega)) q3 q4
      omega
    rw [show m + (ops.toList.length - m) = ops.toList.length by omega] at this
    exact this
  exact ⟨hsz, fun q hb => (key q (hgl.2 q hb)).1 hb, fun q j hj => (key q (hreg q j hj)).2 j hj, hdef⟩
end
end
end Go.FM
end

section
namespace Go.FM
noncomputable section
variable [Env]
section
variable (Pr : Program) (D nt gl : Nat) (ops : Array Oper)
def IsNew (x : Tc) (i : Nat) (o : Oper) : Prop := ops.toList[i]? = some o ∧ kdF (foAt Pr D nt gl ops i o) = .new ∧ x.B i = true
def IsEff (i : Nat) (o : Oper) : Prop := ops.toList[i]? = some o ∧ kdF (foAt Pr D nt gl ops i o) = .eff
structure Pos (X : Nat → Prop) (p : Nat) : Prop where
  le : p ≤ ops.toList.length
  last : p = 0 ∨ ∃ e o, p = e + 1 ∧ X e ∧ IsEff Pr D nt gl ops e o
  all : ∀ e o, X e → IsEff Pr D nt gl ops e o → e < p
structure HeapOk (X : Nat → Prop) (x : Tc) (cE p : Nat) (g : Gm) (w : World) : Prop where
  main : HOk D g (x.H p) (x.C p) w
  new : ∀ i o, X i → p ≤ i → IsNew Pr D nt gl ops x i o → ∃ q, x.H (i + 1) = HT.set D (x.C i) (.own 0 q) (x.H i) ∧ BOk g (x.C i + 1) (g (x.C i)) q w ∧ ¬ Has g (hp D (x.H p)) (g (x.C i)).b
  apart : ∀ i o i' o', X i → p ≤ i → IsNew Pr D nt gl ops x i o → X i' → p ≤ i' → IsNew Pr D nt gl ops x i' o' → (g (x.C i)).b = (g (x.C i')).b → i = i'
  ok : ∀ k, x.C p ≤ k → Nm g cE k → ∃ i o, X i ∧ p ≤ i ∧ IsNew Pr D nt gl ops x i o ∧ x.C i = k
end
section
variable {Pr : Program} {D nt gl : Nat} {ops : Array Oper} {X : Nat → Prop} {x : Tc} {cE p m : Nat} {g : Gm} {w : World} {j : Nat} {o : Oper}
theorem step_cases (hT : TrOk Pr D nt gl ops x ops.toList.length) (ho : ops.toList[j]? = some o) (hne : ¬ IsEff Pr D nt gl ops j o) :
    (x.H (j + 1) = x.H j ∧ x.C (j + 1) = x.C j ∧ ¬ IsNew Pr D nt gl ops x j o) ∨
    (IsNew Pr D nt gl ops x j o ∧ ∃ q, x.C (j + 1) = x.C j + 1 ∧ x.C j < 4 ^ D ∧ x.H (j + 1) = HT.set D (x.C j) (.own 0 q) (x.H j)) := by
  have hs := hT.step j o (List.getElem?_eq_some_iff.1 ho).1 ho
  cases hk : kdF (foAt Pr D nt gl ops j o) with
  | eff => exact absurd ⟨ho, hk⟩ hne
  | new =>
    cases hb : x.B j with
    | false =>
      obtain ⟨_, h1, h2⟩ := hs.off hb
      exact .inl ⟨h1, h2, fun h => by have := h.2.2; rw [hb] at this; cases this⟩
    | true =>
      obtain ⟨q, h1, h2, h3, _⟩ := hs.al hk hb
      exact .inr ⟨⟨ho, hk, hb⟩, q, h1, h2, h3⟩
  | pure =>
    obtain ⟨_, h1, h2⟩ := hs.light (light_kd.2 (.inl hk))
    exact .inl ⟨h1, h2, fun h => by have := h.2.1; rw [hk] at this; cases this⟩
  | read =>
    obtain ⟨_, h1, h2⟩ := hs.light (light_kd.2 (.inr hk))
    exact .inl ⟨h1, h2, fun h => by have := h.2.1; rw [hk] at this; cases this⟩
structure Seg (Pr : Program) (D nt gl : Nat) (ops : Array Oper) (x : Tc) (p m : Nat) : Prop where
  deep : HT.deep D (x.H m)
  le : x.C p ≤ x.C m
  top : x.C m ≤ 4 ^ D
  mono : ∀ i, p ≤ i → i ≤ m → x.C i ≤ x.C m
  at_ : ∀ k, (∃ i o q, p ≤ i ∧ i < m ∧ IsNew Pr D nt gl ops x i o ∧ x.C i = k ∧ x.C (i + 1) = x.C i + 1 ∧ x.H (i + 1) = HT.set D (x.C i) (.own 0 q) (x.H i) ∧ hp D (x.H m) k = .own 0 q) ∨
    ((k < x.C p ∨ x.C m ≤ k) ∧ hp D (x.H m) k = hp D (x.H p) k)
theorem seg (hT : TrOk Pr D nt gl ops x ops.toList.length) (hd : HT.deep D (x.H p)) (hc : x.C p ≤ 4 ^ D) : ∀ k, p + k ≤ ops.toList.length → (∀ e o, p ≤ e → e < p + k → ¬ IsEff Pr D nt gl ops e o) → Seg Pr D nt gl ops x p (p + k) := by
  intro k
  induction k with
  | zero => exact fun _ _ => ⟨hd, Nat.le_refl _, hc, fun i h1 h2 => by rw [show i = p by exact Nat.le_antisymm h2 h1]; exact Nat.le_refl _, fun k => .inr ⟨by rcases Nat.lt_or_ge k (x.C p) with h | h; exact .inl h; exact .inr h, rfl⟩⟩
  | succ k ih =>
    intro hk hne
    have s := ih (Nat.le_of_succ_le hk) fun e o h1 h2 => hne e o h1 (Nat.lt_succ_of_lt h2)
    have hlt : p + k < ops.toList.length := hk
    have ho := List.getElem?_eq_getElem hlt
    rcases step_cases hT ho (hne _ _ (Nat.le_add_right p k) (Nat.lt_succ_self _)) with ⟨h1, h2, h3⟩ | ⟨hn, q, h1, h2, h3⟩
    · show Seg Pr D nt gl ops x p (p + k + 1)
      refine ⟨by rw [h1]; exact s.deep, by rw [h2]; exact s.le, by rw [h2]; exact s.top, fun i q1 q2 => ?_, fun n => ?_⟩
      · rcases Nat.lt_or_ge i (p + k + 1) with h | h
        · rw [h2]; exact s.mono i q1 (Nat.le_of_lt_succ h)
        · rw [show i = p + k + 1 from Nat.le_antisymm q2 h]; exact Nat.le_refl _
      · rw [h1, h2]
        rcases s.at_ n with ⟨i, o, q, a1, a2, a3⟩ | a
        · exact .inl ⟨i, o, q, a1, Nat.lt_succ_of_lt a2, a3⟩
        · exact .inr a
    · show Seg Pr D nt gl ops x p (p + k + 1)
      have hset := hp_set (o := .own 0 q) s.deep h2
      refine ⟨by rw [h3]; exact deep_set _ _ _ _ s.deep, by rw [h1]; have := s.le; omega, by rw [h1]; exact h2, fun i q1 q2 => ?_, fun n => ?_⟩
      · rcases Nat.lt_or_ge i (p + k + 1) with h | h
        · rw [h1]; have := s.mono i q1 (Nat.le_of_lt_succ h); omega
        · rw [show i = p + k + 1 from Nat.le_antisymm q2 h]; exact Nat.le_refl _
      · by_cases hnc : n = x.C (p + k)
        · subst hnc
          refine .inl ⟨p + k, _, q, Nat.le_add_right p k, Nat.lt_succ_self _, hn, rfl, h1, h3, ?_⟩
          rw [h3, hset]
          simp [upd]
        · have e : hp D (x.H (p + k + 1)) n = hp D (x.H (p + k)) n := by rw [h3, hset]; simp [upd, hnc]
          rw [e, h1]
          rcases s.at_ n with ⟨i, o, q', a1, a2, a3⟩ | ⟨a1, a2⟩
          · exact .inl ⟨i, o, q', a1, Nat.lt_succ_of_lt a2, a3⟩
          · exact .inr ⟨by rcases a1 with a1 | a1; exact .inl a1; exact .inr (by omega), a2⟩
theorem merge (hT : TrOk Pr D nt gl ops x ops.toList.length) (hh : HeapOk Pr D nt gl ops X x cE p g w) (hpm : p ≤ m) (hm : m ≤ ops.toList.length) (hne : ∀ e o, p ≤ e → e < m → ¬ IsEff Pr D nt gl ops e o)
    (hnew : ∀ i o, p ≤ i → i < m → IsNew Pr D nt gl ops x i o → X i) (hkp : ∀ i o, X i → p ≤ i → IsNew Pr D nt gl ops x i o → ∀ b ob, Env.keep b = some ob → (g (x.C i)).b ≠ b) :
    HOk D g (x.H m) (x.C m) w ∧ x.C p ≤ x.C m ∧ (∀ i, p ≤ i → i ≤ m → x.C i ≤ x.C m) ∧ (∀ b, Has g (hp D (x.H m)) b → Has g (hp D (x.H p)) b ∨ ∃ i o, p ≤ i ∧ i < m ∧ IsNew Pr D nt gl ops x i o ∧ (g (x.C i)).b = b) ∧
      (∀ b, Owns g (hp D (x.H m)) b → Owns g (hp D (x.H p)) b ∨ ∃ i o, p ≤ i ∧ i < m ∧ IsNew Pr D nt gl ops x i o ∧ (g (x.C i)).b = b) := by
  have s : Seg Pr D nt gl ops x p m := by
    have := seg hT hh.main.deep hh.main.le (m - p) (by omega) fun e o h1 h2 => hne e o h1 (by omega)
    rw [show p + (m - p) = m by omega] at this
    exact this
  have inv := hh.main.inv
  have nw : ∀ {i o q}, p ≤ i → i < m → IsNew Pr D nt gl ops x i o → x.C (i + 1) = x.C i + 1 → x.H (i + 1) = HT.set D (x.C i) (.own 0 q) (x.H i) → HT.deep D (x.H i) → x.C i < 4 ^ D → BOk g (x.C m) (g (x.C i)) q w ∧ ¬ Has g (hp D (x.H p)) (g (x.C i)).b := by
    intro i o q h1 h2 h3 hc h4 hdp hlt
    obtain ⟨q', e1, e2, e3⟩ := hh.new i o (hnew i o h1 h2 h3) h1 h3
    have : q' = q := by
      have hs1 := hp_set (o := .own 0 q) hdp hlt
      have hs2 := hp_set (o := .own 0 q') hdp hlt
      rw [← h4] at hs1
      rw [← e1] at hs2
      have := congrFun (hs1.symm.trans hs2) (x.C i)
      simp [upd] at this
      exact this.symm
    subst this
    exact ⟨e2.mono (fun _ _ => rfl) (by rw [← hc]; exact s.mono (i + 1) (by omega) h2) rfl, e3⟩
  have nw' : ∀ {i o q}, p ≤ i → i < m → IsNew Pr D nt gl ops x i o → x.C (i + 1) = x.C i + 1 → x.H (i + 1) = HT.set D (x.C i) (.own 0 q) (x.H i) → BOk g (x.C m) (g (x.C i)) q w ∧ ¬ Has g (hp D (x.H p)) (g (x.C i)).b := by
    intro i o q h1 h2 h3 hc h4
    have si : Seg Pr D nt gl ops x p i := by
      have := seg hT hh.main.deep hh.main.le (i - p) (by omega) fun e o q1 q2 => hne e o q1 (by omega)
      rw [show p + (i - p) = i by omega] at this
      exact this
    refine nw h1 h2 h3 hc h4 si.deep ?_
    have := s.mono (i + 1) (by omega) h2
    have := s.top
    omega
  have old : ∀ {k}, hp D (x.H p) k ≠ .no → Has g (hp D (x.H p)) (g k).b := fun {k} h => ⟨k, h, rfl⟩
  refine ⟨⟨s.deep, s.top, ⟨fun k pre b hk => ?_, fun k b hk => ?_, fun k b j pre b' hk hj he => ?_, fun k pre b k' pre' b' hk hk' he => ?_, fun k hk => ?_, fun k pr b hk => ?_⟩, fun b ob hb => ⟨(hh.main.kp b ob hb).1, fun ⟨k, pre, bd, hk, e⟩ => ?_⟩⟩, s.le, s.mono, fun b hb => ?_, fun b hb => ?_⟩
  · rcases s.at_ k with ⟨i, o, q, a1, a2, a3, rfl, a5, a6, a7⟩ | ⟨a1, a2⟩
    · rw [a7] at hk
      simp only [HO.own.injEq] at hk
      obtain ⟨rfl, rfl⟩ := hk
      exact (nw' a1 a2 a3 a5 a6).1
    · rw [a2] at hk
      exact (inv.own k pre b hk).mono (fun _ _ => rfl) s.le rfl
  · rcases s.at_ k with ⟨i, o, q, a1, a2, a3, rfl, a5, a6, a7⟩ | ⟨a1, a2⟩
    · rw [a7] at hk; cases hk
    · rw [a2] at hk
      exact (inv.sh k b hk).mono (fun _ _ => rfl) s.le rfl
  · rcases s.at_ k with ⟨i, o, q, a1, a2, a3, rfl, a5, a6, a7⟩ | ⟨a1, a2⟩
    · rw [a7] at hk; cases hk
    · rw [a2] at hk
      rcases s.at_ j with ⟨i, o, q, b1, b2, b3, rfl, b5, b6, b7⟩ | ⟨b1, b2⟩
      · exact absurd ⟨k, by rw [hk]; simp, he.symm⟩ (nw' b1 b2 b3 b5 b6).2
      · rw [b2] at hj
        exact inv.apart k b j pre b' hk hj he
  · rcases s.at_ k with ⟨i, o, q, a1, a2, a3, rfl, a5, a6, a7⟩ | ⟨a1, a2⟩
    · rcases s.at_ k' with ⟨i', o', q', b1, b2, b3, rfl, b5, b6, b7⟩ | ⟨b1, b2⟩
      · rw [hh.apart i o i' o' (hnew i o a1 a2 a3) a1 a3 (hnew i' o' b1 b2 b3) b1 b3 he]
      · rw [b2] at hk'
        exact absurd ⟨k', by rw [hk']; simp, he.symm⟩ (nw' a1 a2 a3 a5 a6).2
    · rw [a2] at hk
      rcases s.at_ k' with ⟨i', o', q', b1, b2, b3, rfl, b5, b6, b7⟩ | ⟨b1, b2⟩
      · exact absurd ⟨k, by rw [hk]; simp, he⟩ (nw' b1 b2 b3 b5 b6).2
      · rw [b2] at hk'
        exact inv.inj k pre b k' pre' b' hk hk' he
  · rcases s.at_ k with ⟨i, o, q, a1, a2, a3, rfl, a5, a6, a7⟩ | ⟨a1, a2⟩
    · have := s.mono (i + 1) (by omega) a2
      omega
    · rw [a2] at hk
      exact Nat.lt_of_lt_of_le (inv.lt k hk) s.le
  · rcases s.at_ k with ⟨i, o, q, a1, a2, a3, rfl, a5, a6, a7⟩ | ⟨a1, a2⟩
    · rw [a7] at hk
      simp only [HO.own.injEq] at hk
      omega
    · rw [a2] at hk
      exact Nat.le_trans (inv.pre k pr b hk) s.le
  · rcases s.at_ k with ⟨i, o, q, a1, a2, a3, rfl, a5, a6, a7⟩ | ⟨a1, a2⟩
    · exact hkp i o (hnew i o a1 a2 a3) a1 a3 b ob hb e
    · rw [a2] at hk
      exact (hh.main.kp b ob hb).2 ⟨k, pre, bd, hk, e⟩
  · obtain ⟨k, hk, rfl⟩ := hb
    rcases s.at_ k with ⟨i, o, q, a1, a2, a3, rfl, a5, a6, a7⟩ | ⟨a1, a2⟩
    · exact .inr ⟨i, o, a1, a2, a3, rfl⟩
    · rw [a2] at hk
      exact .inl ⟨k, hk, rfl⟩
  · obtain ⟨k, pre, bd, hk, rfl⟩ := hb
    rcases s.at_ k with ⟨i, o, q, a1, a2, a3, rfl, a5, a6, a7⟩ | ⟨a1, a2⟩
    · exact .inr ⟨i, o, a1, a2, a3, rfl⟩
    · rw [a2] at hk
      exact .inl ⟨k, pre, bd, hk, rfl⟩
end
end
end Go.FM
end

section
namespace Go.FM
noncomputable section
variable [Env]
structure SI (Pr : Program) (D nt gl : Nat) (ops : Array Oper) (X : Nat → Prop) (x : Tc) (p : Nat) (g0 : Gm) (w0 : World) (g : Gm) (a : Act) (w : World) : Prop where
  done : Done ops X
  pos : Pos Pr D nt gl ops X p
  size : a.tmps.size = nt
  defers : a.defers = []
  heap : HeapOk Pr D nt gl ops X x (x.C ops.toList.length) p g w
  tmps : TmpsOk nt gl ops X x g (x.C ops.toList.length) a
  ag : ∀ k, k < x.C 0 ∨ x.C ops.toList.length ≤ k → g k = g0 k
  fr : ∀ b, b < w0.heap.size → ¬ Owns g0 (hp D (x.H 0)) b → w.heap[b]? = w0.heap[b]?
  ow : ∀ b, Owns g (hp D (x.H p)) b → w0.heap.size ≤ b ∨ Owns g0 (hp D (x.H 0)) b
  hs : ∀ b, Has g (hp D (x.H p)) b → w0.heap.size ≤ b ∨ Has g0 (hp D (x.H 0)) b
  nw : ∀ i o, X i → p ≤ i → IsNew Pr D nt gl ops x i o → w0.heap.size ≤ (g (x.C i)).b
  sz : w0.heap.size ≤ w.heap.size
  os : w.os = w0.os
  tape : w.tape = w0.tape
  out : w.output = w0.output
  kb : ∀ b o, Env.keep b = some o → b < w0.heap.size
section
variable {Pr : Program} {D nt gl : Nat} {ops : Array Oper} {X : Nat → Prop} {x : Tc} {p : Nat} {g0 g g' : Gm} {w0 w w' : World} {a : Act} {j : Nat} {o : Oper} {u : Value}
theorem SI.kpn (h : SI Pr D nt gl ops X x p g0 w0 g a w) : ∀ i o, X i → p ≤ i → IsNew Pr D nt gl ops x i o → ∀ b ob, Env.keep b = some ob → (g (x.C i)).b ≠ b := fun i o hx hp hn b ob hb e => by
  have := h.nw i o hx hp hn
  have := h.kb b ob hb
  omega
theorem mono_C (hT : TrOk Pr D nt gl ops x ops.toList.length) : ∀ (k i : Nat), i + k ≤ ops.toList.length → x.C i ≤ x.C (i + k)
  | 0, i, _ => Nat.le_refl _
  | k + 1, i, h => by
    have ih := mono_C hT k i (Nat.le_of_succ_le h)
    have hlt : i + k < ops.toList.length := h
    exact Nat.le_trans ih (hT.step _ _ hlt (List.getElem?_eq_getElem hlt)).le
theorem le_C (hT : TrOk Pr D nt gl ops x ops.toList.length) {i k : Nat} (h : i ≤ k) (hk : k ≤ ops.toList.length) : x.C i ≤ x.C k := by
  have := mono_C hT (k - i) i (by omega)
  rw [show i + (k - i) = k by omega] at this
  exact this
theorem new_lt (hT : TrOk Pr D nt gl ops x ops.toList.length) {i k : Nat} {o : Oper} (hn : IsNew Pr D nt gl ops x i o) (h : i < k) (hk : k ≤ ops.toList.length) : x.C i < x.C k := by
  have hs := hT.step i o (List.getElem?_eq_some_iff.1 hn.1).1 hn.1
  obtain ⟨_, e, _⟩ := hs.al hn.2.1 hn.2.2
  have := le_C hT (i := i + 1) (k := k) h hk
  omega
theorem SI.light (hst : Stat Pr D nt gl ops) (hgl : GlOk nt gl) (hT : TrOk Pr D nt gl ops x ops.toList.length) (h : SI Pr D nt gl ops X x p g0 w0 g a w) (hr : Ready ops X j o) (he : ¬ IsEff Pr D nt gl ops j o) (hn : ¬ IsNew Pr D nt gl ops x j o)
    (hv : TRep g (x.C ops.toList.length) (x.V j) u) : SI Pr D nt gl ops (fun i => X i ∨ i = j) x p g0 w0 g (a.put o.dst u) w := by
  have uo : ∀ {o'}, ops.toList[j]? = some o' → o' = o := fun {o'} h => by have := hr.1; rw [h] at this; exact Option.some.inj this
  have keep : ∀ {i o'}, (X i ∨ i = j) → IsNew Pr D nt gl ops x i o' → X i := by
    intro i o' hi hnew
    rcases hi with hi | rfl
    · exact hi
    · have := uo hnew.1
      subst this
      exact absurd hnew hn
  refine ⟨hr.done h.done, ⟨h.pos.le, ?_, fun e oe hx hee => ?_⟩, by rw [put_size]; exact h.size, ?_, ⟨h.heap.main, fun i o' hi hp hnew => h.heap.new i o' (keep hi hnew) hp hnew, fun i o1 i' o2 hi h1 h2 hi' h3 h4 he => h.heap.apart i o1 i' o2 (keep hi h2) h1 h2 (keep hi' h4) h3 h4 he, fun k hk hnm => ?_⟩,
    h.tmps.put hst h.done hr hgl hT h.size hv, h.ag, h.fr, h.ow, h.hs, fun i o' hi hp hnew => h.nw i o' (keep hi hnew) hp hnew, h.sz, h.os, h.tape, h.out, h.kb⟩
  · rcases h.pos.last with q | ⟨e, oe, q1, q2, q3⟩
    · exact .inl q
    · exact .inr ⟨e, oe, q1, .inl q2, q3⟩
  · rcases hx with hx | rfl
    · exact h.pos.all e oe hx hee
    · have := uo hee.1
      subst this
      exact absurd hee he
  · cases hd : o.dst <;> exact h.defers
  · obtain ⟨i, o', q1, q2, q3, q4⟩ := h.heap.ok k hk hnm
    exact ⟨i, o', .inl q1, q2, q3, q4⟩
theorem SI.before (hst : Stat Pr D nt gl ops) (h : SI Pr D nt gl ops X x p g0 w0 g a w) (hr : Ready ops X j o) (he : IsEff Pr D nt gl ops j o) :
    p ≤ j ∧ (∀ e o', p ≤ e → e < j → ¬ IsEff Pr D nt gl ops e o') ∧ (∀ i o', i < j → IsNew Pr D nt gl ops x i o' → X i) := by
  have uo : ∀ {o'}, ops.toList[j]? = some o' → o' = o := fun {o'} h => by have := hr.1; rw [h] at this; exact Option.some.inj this
  have eff : ∀ e o', e < j → IsEff Pr D nt gl ops e o' → X e := by
    intro e o' hlt hee
    rcases hst.pair e j o' o hee.1 hr.1 hlt with q | ⟨_, _, q⟩
    · exact hr.anc hst h.done q
    · exact absurd ⟨he.2, .inl hee.2⟩ q
  refine ⟨?_, fun e o' h1 h2 h3 => ?_, fun i o' hlt hn => ?_⟩
  · rcases h.pos.last with q | ⟨e, oe, q1, q2, q3⟩
    · omega
    · rcases Nat.lt_trichotomy e j with q | q | q
      · omega
      · subst q; exact absurd q2 hr.2.1
      · rcases hst.pair j e o oe hr.1 q3.1 q with q' | ⟨_, _, q'⟩
        · exact absurd (h.done.anc hst e q2 j q') hr.2.1
        · exact absurd ⟨q3.2, .inl he.2⟩ q'
  · have := h.pos.all e o' (eff e o' h2 h3) h3
    omega
  · rcases hst.pair i j o' o hn.1 hr.1 hlt with q | ⟨_, _, q⟩
    · exact hr.anc hst h.done q
    · exact absurd ⟨he.2, .inr hn.2.1⟩ q
theorem SI.eff (hst : Stat Pr D nt gl ops) (hgl : GlOk nt gl) (hT : TrOk Pr D nt gl ops x ops.toList.length) (h : SI Pr D nt gl ops X x p g0 w0 g a w) (hr : Ready ops X j o) (he : IsEff Pr D nt gl ops j o)
    (q1 : HOk D g' (x.H (j + 1)) (x.C (j + 1)) w') (q2 : Post g (hp D (x.H j)) (x.C j) w g' (hp D (x.H (j + 1))) (x.C (j + 1)) w') (hv : TRep g' (x.C (j + 1)) (x.V j) u) :
    SI Pr D nt gl ops (fun i => X i ∨ i = j) x (j + 1) g0 w0 g' (a.put o.dst u) w' := by
  have uo : ∀ {o'}, ops.toList[j]? = some o' → o' = o := fun {o'} h => by have := hr.1; rw [h] at this; exact Option.some.inj this
  have hjl : j < ops.toList.length := (List.getElem?_eq_some_iff.1 hr.1).1
  obtain ⟨hpj, hne, hnew⟩ := h.before hst hr he
  obtain ⟨m1, m2, m3, m4, m5⟩ := merge hT h.heap hpj (Nat.le_of_lt hjl) hne (fun i o' _ h2 h3 => hnew i o' h2 h3) h.kpn
  have hc0 : x.C 0 ≤ x.C j := le_C hT (Nat.zero_le _) (Nat.le_of_lt hjl)
  have hcn : x.C (j + 1) ≤ x.C ops.toList.length := le_C hT hjl (Nat.le_refl _)
  have gap : ∀ k, x.C j ≤ k → k < x.C (j + 1) → ¬ Nm g (x.C ops.toList.length) k := by
    intro k h1 h2 hk
    obtain ⟨i, o', a1, a2, a3, a4⟩ := h.heap.ok k (Nat.le_trans m2 h1) hk
    have hil := (List.getElem?_eq_some_iff.1 a3.1).1
    rcases Nat.lt_trichotomy i j with q | q | q
    · have := new_lt hT a3 q (Nat.le_of_lt hjl); omega
    · subst q
      have := uo a3.1
      subst this
      have := a3.2.1
      rw [he.2] at this; cases this
    · have := le_C hT (i := j + 1) (k := i) q (Nat.le_of_lt hil)
      omega
  have agr : Agr (x.C ops.toList.length) g g' := by
    intro k hk
    refine q2.ag k ?_
    by_cases h1 : k < x.C j
    · exact .inl h1
    · by_cases h2 : k < x.C (j + 1)
      · exact absurd hk (gap k (by omega) h2)
      · exact .inr (by omega)
  have later : ∀ {i : Nat}, (X i ∨ i = j) → j + 1 ≤ i → X i := fun hi hle => by
    rcases hi with hi | hi
    · exact hi
    · omega
  have gk : ∀ {i o'}, X i → j + 1 ≤ i → IsNew Pr D nt gl ops x i o' → g' (x.C i) = g (x.C i) := by
    intro i o' hi hle hn
    have hil := (List.getElem?_eq_some_iff.1 hn.1).1
    exact q2.ag _ (.inr (le_C hT hle (Nat.le_of_lt hil)))
  have out : ∀ {i o'}, X i → j + 1 ≤ i → IsNew Pr D nt gl ops x i o' → ¬ Has g (hp D (x.H j)) (g (x.C i)).b := by
    intro i o' hi hle hn hh
    obtain ⟨q, e1, e2, e3⟩ := h.heap.new i o' hi (by omega) hn
    rcases m4 _ hh with hh | ⟨i', o2, b1, b2, b3, b4⟩
    · exact e3 hh
    · have := h.heap.apart i' o2 i o' (hnew i' o2 b2 b3) b1 b3 hi (by omega) hn b4
      omega
  have outO : ∀ {b}, ¬ Has g (hp D (x.H j)) b → ¬ Owns g (hp D (x.H j)) b := fun {b} hb ⟨k, pre, bd, hk, e⟩ => hb ⟨k, by rw [hk]; simp, e⟩
  have old : ∀ b, Owns g (hp D (x.H j)) b → w0.heap.size ≤ b ∨ Owns g0 (hp D (x.H 0)) b := by
    intro b hb
    rcases m5 b hb with hb | ⟨i, o', b1, b2, b3, b4⟩
    · exact h.ow b hb
    · exact .inl (by rw [← b4]; exact h.nw i o' (hnew i o' b2 b3) b1 b3)
  refine ⟨hr.done h.done, ⟨hjl, .inr ⟨j, o, rfl, .inr rfl, he⟩, fun e oe hx hee => ?_⟩, by rw [put_size]; exact h.size, ?_, ⟨q1, fun i o' hi hle hn => ?_, fun i o1 i' o2 hi h1 h2 hi' h3 h4 e => ?_, fun k hk hnm => ?_⟩,
    (h.tmps.mono' agr (Nat.le_refl _)).put hst h.done hr hgl hT h.size (hv.mono (fun _ _ => rfl) hcn), fun k hk => ?_, fun b hb hno => ?_, fun b hb => ?_, fun b hb => ?_, fun i o' hi hle hn => ?_, Nat.le_trans h.sz q2.sz, q2.os.trans h.os, q2.tape.trans h.tape, q2.out.trans h.out, h.kb⟩
  · rcases hx with hx | rfl
    · have := h.pos.all e oe hx hee; omega
    · omega
  · cases hd : o.dst <;> exact h.defers
  · have hx := later hi hle
    obtain ⟨q, e1, e2, e3⟩ := h.heap.new i o' hx (by omega) hn
    have hil := (List.getElem?_eq_some_iff.1 hn.1).1
    refine ⟨q, e1, ?_, fun hh => ?_⟩
    · rw [gk hx hle hn]
      have hle2 : x.C i + 1 ≤ x.C ops.toList.length := new_lt hT hn hil (Nat.le_refl _)
      exact e2.mono' (fun k hk => agr k ⟨by have := hk.1; omega, hk.2⟩) (Nat.le_refl _) (q2.fr _ e2.lt (outO (out hx hle hn)))
    · rw [gk hx hle hn] at hh
      rcases q2.hs _ hh with q' | q'
      · have := e2.lt; omega
      · exact out hx hle hn q'
  · have hx := later hi h1
    have hx' := later hi' h3
    rw [gk hx h1 h2, gk hx' h3 h4] at e
    exact h.heap.apart i o1 i' o2 hx (by omega) h2 hx' (by omega) h4 e
  · have hgk : g' k = g k := q2.ag k (.inr hk)
    have hnm' : Nm g (x.C ops.toList.length) k := ⟨hnm.1, by rw [← hgk]; exact hnm.2⟩
    obtain ⟨i, o', a1, a2, a3, a4⟩ := h.heap.ok k (by have := q2.le; omega) hnm'
    refine ⟨i, o', .inl a1, ?_, a3, a4⟩
    rcases Nat.lt_trichotomy i j with q | q | q
    · have := new_lt hT a3 q (Nat.le_of_lt hjl)
      have := q2.le
      omega
    · subst q; exact absurd a1 hr.2.1
    · exact q
  · rw [q2.ag k (by have := q2.le; omega)]
    exact h.ag k hk
  · rw [q2.fr b (Nat.lt_of_lt_of_le hb h.sz) fun ho => ?_]
    · exact h.fr b hb hno
    · rcases old b ho with q | q
      · omega
      · exact hno q
  · rcases q2.ow b hb with q | q
    · exact .inl (Nat.le_trans h.sz q)
    · exact old b q
  · rcases q2.hs b hb with q | q
    · exact .inl (Nat.le_trans h.sz q)
    · rcases m4 b q with q | ⟨i, o', b1, b2, b3, b4⟩
      · exact h.hs b q
      · exact .inl (by rw [← b4]; exact h.nw i o' (hnew i o' b2 b3) b1 b3)
  · have hx := later hi hle
    rw [gk hx hle hn]
    exact h.nw i o' hx (by omega) hn
end
end
end Go.FM
end

section
namespace Go.FM
noncomputable section
variable [Env]
section
variable {Pr : Program} {D nt gl : Nat} {ops : Array Oper} {X : Nat → Prop} {x : Tc} {p : Nat} {g0 g g' : Gm} {w0 w w' : World} {a : Act} {j : Nat} {o : Oper} {u : Value}
theorem hp_nil (D k : Nat) : hp D .nil k = .no := by
  unfold hp
  split
  · exact get_nil D k
  · rfl
theorem HInv.congr {h : Nat → HO} {c : Nat} (hi : HInv g h c w) (ha : ∀ k, k < c → g' k = g k) (hw : ∀ b, b < w.heap.size → w'.heap[b]? = w.heap[b]?) : HInv g' h c w' where
  own := fun k pre b hk => by
    have hb := hi.own k pre b hk
    rw [ha k (hi.lt k (by rw [hk]; simp))]
    exact hb.mono ha (Nat.le_refl _) (hw _ hb.lt)
  sh := fun k b hk => by
    have hb := hi.sh k b hk
    rw [ha k (hi.lt k (by rw [hk]; simp))]
    exact hb.mono ha (Nat.le_refl _) (hw _ hb.lt)
  apart := fun k b j pre b' hk hj he => by
    rw [ha k (hi.lt k (by rw [hk]; simp)), ha j (hi.lt j (by rw [hj]; simp))] at he
    exact hi.apart k b j pre b' hk hj he
  inj := fun k pre b k' pre' b' hk hk' he => by
    rw [ha k (hi.lt k (by rw [hk]; simp)), ha k' (hi.lt k' (by rw [hk']; simp))] at he
    exact hi.inj k pre b k' pre' b' hk hk' he
  lt := hi.lt
  pre := hi.pre
theorem Has.lt {h : Nat → HO} {c : Nat} (hi : HInv g h c w) {b : Nat} (hb : Has g h b) : b < w.heap.size := by
  obtain ⟨k, hk, rfl⟩ := hb
  cases ho : h k with
  | no => exact absurd ho hk
  | own pre bd => exact (hi.own k pre bd ho).lt
  | sh bd => exact (hi.sh k bd ho).lt
theorem SI.new (hst : Stat Pr D nt gl ops) (hgl : GlOk nt gl) (hT : TrOk Pr D nt gl ops x ops.toList.length) (h : SI Pr D nt gl ops X x p g0 w0 g a w) (hr : Ready ops X j o) (hn : IsNew Pr D nt gl ops x j o) {q : HB}
    (hH : x.H (j + 1) = HT.set D (x.C j) (.own 0 q) (x.H j)) (q1 : HOk D g' (HT.set D (x.C j) (.own 0 q) .nil) (x.C j + 1) w') (q2 : Post g (hp D .nil) (x.C j) w g' (hp D (HT.set D (x.C j) (.own 0 q) .nil)) (x.C j + 1) w')
    (hv : TRep g' (x.C j + 1) (x.V j) u) : SI Pr D nt gl ops (fun i => X i ∨ i = j) x p g0 w0 g' (a.put o.dst u) w' := by
  have uo : ∀ {o'}, ops.toList[j]? = some o' → o' = o := fun {o'} h => by have := hr.1; rw [h] at this; exact Option.some.inj this
  have hjl : j < ops.toList.length := (List.getElem?_eq_some_iff.1 hr.1).1
  have hcn : x.C j + 1 ≤ x.C ops.toList.length := new_lt hT hn hjl (Nat.le_refl _)
  have hc0 : x.C 0 ≤ x.C j := le_C hT (Nat.zero_le _) (Nat.le_of_lt hjl)
  have hpj : p ≤ j := by
    rcases h.pos.last with e | ⟨e, oe, e1, e2, e3⟩
    · omega
    · rcases Nat.lt_trichotomy e j with q | q | q
      · omega
      · subst q; exact absurd e2 hr.2.1
      · rcases hst.pair j e o oe hr.1 e3.1 q with q' | ⟨_, _, q'⟩
        · exact absurd (h.done.anc hst e e2 j q') hr.2.1
        · exact absurd ⟨e3.2, .inr hn.2.1⟩ q'
  have hcp : x.C p ≤ x.C j := le_C hT hpj (Nat.le_of_lt hjl)
  have noO : ∀ b, ¬ Owns g (hp D .nil) b := fun b ⟨k, pre, bd, hk, _⟩ => by rw [hp_nil] at hk; cases hk
  have same : ∀ b, b < w.heap.size → w'.heap[b]? = w.heap[b]? := fun b hb => q2.fr b hb (noO b)
  have gk : ∀ k, k ≠ x.C j → g' k = g k := fun k hk => q2.ag k (by omega)
  have ne : ∀ {i o'}, X i → IsNew Pr D nt gl ops x i o' → x.C i ≠ x.C j := by
    intro i o' hi hni
    have hil := (List.getElem?_eq_some_iff.1 hni.1).1
    rcases Nat.lt_trichotomy i j with q | q | q
    · have := new_lt hT hni q (Nat.le_of_lt hjl); omega
    · subst q; exact absurd hi hr.2.1
    · have := new_lt hT hn q (Nat.le_of_lt hil); omega
  have agr : Agr (x.C ops.toList.length) g g' := by
    intro k hk
    refine gk k fun e => ?_
    subst e
    obtain ⟨i, o', a1, a2, a3, a4⟩ := h.heap.ok _ hcp hk
    exact ne a1 a3 a4
  have hown : hp D (HT.set D (x.C j) (.own 0 q) .nil) (x.C j) = .own 0 q := by
    rw [hp_set (deep_nil D) q1.le]
    simp [upd]
  have hb0 := q1.inv.own (x.C j) 0 q hown
  have hfresh : w.heap.size ≤ (g' (x.C j)).b := by
    rcases q2.ow _ ⟨x.C j, 0, q, hown, rfl⟩ with e | e
    · exact e
    · exact absurd e (noO _)
  have lowg : ∀ k, k < x.C p → g' k = g k := fun k hk => gk k (by omega)
  have hasb : ∀ b, Has g' (hp D (x.H p)) b → Has g (hp D (x.H p)) b := by
    intro b ⟨k, hk, e⟩
    exact ⟨k, hk, by rw [← lowg k (h.heap.main.inv.lt k hk)]; exact e⟩
  have spl : ∀ {i o'}, (X i ∨ i = j) → IsNew Pr D nt gl ops x i o' → X i ∨ (i = j ∧ o' = o) := by
    intro i o' hi hni
    rcases hi with hi | hi
    · exact .inl hi
    · subst hi; exact .inr ⟨rfl, uo hni.1⟩
  have blt : ∀ {i o'}, X i → p ≤ i → IsNew Pr D nt gl ops x i o' → (g (x.C i)).b < w.heap.size := by
    intro i o' hi hp hni
    obtain ⟨q', e1, e2, e3⟩ := h.heap.new i o' hi hp hni
    exact e2.lt
  refine ⟨hr.done h.done, ⟨h.pos.le, ?_, fun e oe hx hee => ?_⟩, by rw [put_size]; exact h.size, ?_, ⟨⟨h.heap.main.deep, h.heap.main.le, h.heap.main.inv.congr lowg same, fun b ob hb => ⟨by rw [same b (Array.getElem?_eq_some_iff.1 (h.heap.main.kp b ob hb).1).1]; exact (h.heap.main.kp b ob hb).1, fun ⟨k, pre, bd, hk, e⟩ => (h.heap.main.kp b ob hb).2 ⟨k, pre, bd, hk, by rw [← lowg k (h.heap.main.inv.lt k (by rw [hk]; simp))]; exact e⟩⟩⟩, fun i o' hi hp hni => ?_, fun i o1 i' o2 hi h1 h2 hi' h3 h4 e => ?_, fun k hk hnm => ?_⟩,
    (h.tmps.mono' agr (Nat.le_refl _)).put hst h.done hr hgl hT h.size (hv.mono (fun _ _ => rfl) hcn), fun k hk => ?_, fun b hb hno => ?_, fun b hb => ?_, fun b hb => h.hs b (hasb b hb), fun i o' hi hp hni => ?_, Nat.le_trans h.sz q2.sz, q2.os.trans h.os, q2.tape.trans h.tape, q2.out.trans h.out, h.kb⟩
  · rcases h.pos.last with q | ⟨e, oe, q1, q2, q3⟩
    · exact .inl q
    · exact .inr ⟨e, oe, q1, .inl q2, q3⟩
  · rcases hx with hx | hx
    · exact h.pos.all e oe hx hee
    · subst hx
      have := uo hee.1
      subst this
      have := hee.2
      rw [hn.2.1] at this; cases this
  · cases hd : o.dst <;> exact h.defers
  · rcases spl hi hni with hx | ⟨rfl, rfl⟩
    · obtain ⟨q', e1, e2, e3⟩ := h.heap.new i o' hx hp hni
      have hil := (List.getElem?_eq_some_iff.1 hni.1).1
      have hle2 : x.C i + 1 ≤ x.C ops.toList.length := new_lt hT hni hil (Nat.le_refl _)
      rw [gk _ (ne hx hni)]
      exact ⟨q', e1, e2.mono' (fun k hk => agr k ⟨by have := hk.1; omega, hk.2⟩) (Nat.le_refl _) (same _ e2.lt), fun hh => e3 (hasb _ hh)⟩
    · refine ⟨q, hH, hb0, fun hh => ?_⟩
      have := Has.lt h.heap.main.inv (hasb _ hh)
      omega
  · rcases spl hi h2 with hx | ⟨rfl, rfl⟩ <;> rcases spl hi' h4 with hx' | ⟨rfl, rfl⟩
    · rw [gk _ (ne hx h2), gk _ (ne hx' h4)] at e
      exact h.heap.apart i o1 i' o2 hx h1 h2 hx' h3 h4 e
    · rw [gk _ (ne hx h2)] at e
      have := blt hx h1 h2; omega
    · rw [gk _ (ne hx' h4)] at e
      have := blt hx' h3 h4; omega
    · rfl
  · by_cases hkc : k = x.C j
    · exact ⟨j, o, .inr rfl, hpj, hn, hkc.symm⟩
    · have hnm' : Nm g (x.C ops.toList.length) k := ⟨hnm.1, by rw [← gk k hkc]; exact hnm.2⟩
      obtain ⟨i, o', a1, a2, a3, a4⟩ := h.heap.ok k hk hnm'
      exact ⟨i, o', .inl a1, a2, a3, a4⟩
  · rw [gk k (by omega)]
    exact h.ag k hk
  · rw [same b (Nat.lt_of_lt_of_le hb h.sz)]
    exact h.fr b hb hno
  · obtain ⟨k, pre, bd, hk, e⟩ := hb
    refine h.ow b ⟨k, pre, bd, hk, ?_⟩
    rw [← lowg k (h.heap.main.inv.lt k (by rw [hk]; simp))]; exact e
  · rcases spl hi hni with hx | ⟨rfl, rfl⟩
    · rw [gk _ (ne hx hni)]
      exact h.nw i o' hx hp hni
    · exact Nat.le_trans h.sz hfresh
end
end
end Go.FM
end

section
namespace Go.FM
noncomputable section
variable [Env]
section
variable {g : Gm} {c c' : Nat} {v : HV} {u : Value}
theorem CRep.lower (hl : ∀ k, Nm g c k → Nm g c' k) (h : CRep g c v u) : CRep g c' v u := by
  cases v with
  | ptr k off => exact ⟨hl k h.1, h.2⟩
  | fn f caps => exact ⟨fun p hp => hl _ (h.1 p hp), h.2⟩
  | slc k o n es cl => exact ⟨hl k h.1, h.2⟩
  | mp k => exact ⟨hl k h.1, h.2⟩
  | _ => exact h
theorem CReps.lower {cs : List HV} {vs : List Value} (hl : ∀ k, Nm g c k → Nm g c' k) (h : CReps g c cs vs) : CReps g c' cs vs := ⟨h.1, fun i x u hx hu => ⟨(h.2 i x u hx hu).1.lower hl, (h.2 i x u hx hu).2⟩⟩
theorem VRep.lower (hl : ∀ k, Nm g c k → Nm g c' k) (h : VRep g c v u) : VRep g c' v u := by
  cases v with
  | agg cs => obtain ⟨vs, h1, h2⟩ := h; exact ⟨vs, h1, h2.lower hl⟩
  | _ => unfold VRep at h ⊢; exact CRep.lower hl h
theorem TRep.lower (hl : ∀ k, Nm g c k → Nm g c' k) (h : TRep g c v u) : TRep g c' v u := by
  cases v with
  | tup as => obtain ⟨vs, h1, h2, h3⟩ := h; exact ⟨vs, h1, h2, fun i x u hx hu => (h3 i x u hx hu).lower hl⟩
  | _ => unfold TRep at h ⊢; exact VRep.lower hl h
theorem CRep.under (hu : underC c' v = true) (h : CRep g c v u) : CRep g c' v u := by
  cases v with
  | ptr k off => exact ⟨⟨Nat.le_of_ble_eq_true hu, h.1.2⟩, h.2⟩
  | fn f caps =>
    simp only [underC, List.all_eq_true] at hu
    exact ⟨fun p hp => ⟨Nat.le_of_ble_eq_true (hu p hp), (h.1 p hp).2⟩, h.2⟩
  | slc k o n es cl => exact ⟨⟨Nat.le_of_ble_eq_true hu, h.1.2⟩, h.2⟩
  | mp k => exact ⟨⟨Nat.le_of_ble_eq_true hu, h.1.2⟩, h.2⟩
  | _ => exact h
theorem TRep.under (hu : underV c' v = true) (h : TRep g c v u) : TRep g c' v u := by
  cases v with
  | agg cs =>
    obtain ⟨vs, h1, h2⟩ := h
    simp only [underV, List.all_eq_true] at hu
    exact ⟨vs, h1, h2.1, fun i x u hx hu' => ⟨(h2.2 i x u hx hu').1.under (hu x (List.mem_of_getElem? hx)), (h2.2 i x u hx hu').2⟩⟩
  | tup as => cases hu
  | _ => unfold TRep VRep at h ⊢; exact CRep.under hu h
end
section
variable {Pr : Program} {D nt gl : Nat} {ops : Array Oper} {X : Nat → Prop} {x : Tc} {p : Nat} {g0 g g' : Gm} {w0 w w' : World} {a : Act} {j : Nat} {o : Oper} {u : Value}
theorem laterN_get {A : List Nat} {i : Nat} : ∀ {l : List Kd} {j0 : Nat}, laterN A i j0 l = false → ∀ j, l[j]? = some .new → i < j0 + j → Nat.testBit (natAt A (j0 + j)) i = true
  | [], j0, _, j, hg, _ => by simp at hg
  | k :: r, j0, h, 0, hg, hlt => by
    simp at hg; subst hg
    simp only [laterN, Bool.or_eq_false_iff, Bool.and_eq_false_iff, Bool.not_eq_false'] at h
    rcases h.1 with h | h
    · have : Nat.blt i j0 = true := Nat.ble_eq_true_of_le hlt
      rw [this] at h; cases h
    · exact h
  | k :: r, j0, h, j + 1, hg, hlt => by
    have hr : laterN A i (j0 + 1) r = false := by
      cases k with
      | new => simp only [laterN, Bool.or_eq_false_iff] at h; exact h.2
      | _ => exact h
    have := laterN_get hr j (by simpa using hg) (by omega)
    rw [show j0 + (j + 1) = j0 + 1 + j by omega]; exact this
theorem mark_get : ∀ (m e : Nat) (ks : List Kd), e < m → effAt ks e = true → e + 1 ∈ marks ks m
  | 0, e, ks, h, _ => absurd h (Nat.not_lt_zero e)
  | m + 1, e, ks, h, he => by
    simp only [marks]
    rcases Nat.lt_or_ge e m with q | q
    · have := mark_get m e ks q he
      split
      · exact List.mem_cons_of_mem _ this
      · exact this
    · have : e = m := by omega
      subst this
      rw [if_pos he]; exact List.mem_cons_self
theorem mark_zero : ∀ (m : Nat) (ks : List Kd), 0 ∈ marks ks m
  | 0, ks => by simp [marks]
  | m + 1, ks => by
    simp only [marks]
    split
    · exact List.mem_cons_of_mem _ (mark_zero m ks)
    · exact mark_zero m ks
theorem Pos.mark (hp : Pos Pr D nt gl ops X p) : p ∈ marks (kdsOf Pr D nt gl ops) ops.toList.length := by
  rcases hp.last with rfl | ⟨e, oe, rfl, _, he⟩
  · exact mark_zero _ _
  · exact mark_get _ _ _ hp.le (by rw [eff_get he.1, he.2]; rfl)
theorem idx_mem {q : Nat} : ∀ {l : List Nat} {j : Nat}, idx q l = some j → q ∈ l
  | [], j, h => by simp [idx] at h
  | y :: r, j, h => by
    rw [idx_cons] at h
    split at h
    · rename_i e; rw [e]; exact List.mem_cons_self
    · obtain ⟨j', hj, _⟩ := Option.map_eq_some_iff.1 h
      exact List.mem_cons_of_mem _ (idx_mem hj)
theorem reg_lt (hT : TrOk Pr D nt gl ops x ops.toList.length) : ∀ m, m ≤ ops.toList.length → ∀ q, q ∈ regAt ops m → q < nt
  | 0, _, q, h => by simp [regAt, regOps] at h
  | m + 1, hm, q, h => by
    have hlt : m < ops.toList.length := hm
    have ho := List.getElem?_eq_getElem hlt
    rw [regAt_succ ho] at h
    have hs := (hT.step m _ hlt ho).dst
    cases hd : (ops.toList[m]).dst with
    | none => rw [hd] at h; exact reg_lt hT m (Nat.le_of_lt hlt) q h
    | some d =>
      rw [hd] at h hs
      rcases List.mem_cons.1 h with rfl | h
      · exact Nat.le_of_ble_eq_true hs
      · exact reg_lt hT m (Nat.le_of_lt hlt) q h
theorem SI.counts (hst : Stat Pr D nt gl ops) (h : SI Pr D nt gl ops X x p g0 w0 g a w) (hr : Ready ops X j o) :
    cnt (kdsOf Pr D nt gl ops) j ≤ cnt (kdsOf Pr D nt gl ops) p + backAt Pr D nt gl ops j ∧ cnt (kdsOf Pr D nt gl ops) p ≤ cnt (kdsOf Pr D nt gl ops) j + fwdAt Pr D nt gl ops j := by
  have ise : ∀ {i}, (kdsOf Pr D nt gl ops)[i]? = some .eff → ∃ oi, IsEff Pr D nt gl ops i oi := by
    intro i hi
    have : ∃ oi, ops.toList[i]? = some oi := by
      cases ho : ops.toList[i]? with
      | some oi => exact ⟨oi, rfl⟩
      | none =>
        unfold kdsOf at hi
        rw [List.getElem?_map, fopsOf_get, ho] at hi
        cases hi
    obtain ⟨oi, ho⟩ := this
    rw [kds_get ho] at hi
    exact ⟨oi, ho, Option.some.inj hi⟩
  have hb : ∀ {a b : Nat}, a < b → Nat.blt a b = true := fun h => Nat.ble_eq_true_of_le h
  have hb' : ∀ {a b : Nat}, Nat.blt a b = true → a < b := fun h => Nat.le_of_ble_eq_true h
  have lo : cntE (fun i => Nat.testBit (natAt (ancOf ops) j) i) 0 (kdsOf Pr D nt gl ops) ≤ cnt (kdsOf Pr D nt gl ops) p := by
    rw [← cntE_cnt]
    refine cntE_mono _ 0 fun k hk hp => ?_
    simp only [Nat.zero_add] at hp ⊢
    obtain ⟨oi, he⟩ := ise hk
    exact hb (h.pos.all k oi (hr.anc hst h.done hp) he)
  have hi : cnt (kdsOf Pr D nt gl ops) p ≤ cntE (fun i => !(Nat.testBit (natAt (ancOf ops) i) j)) 0 (kdsOf Pr D nt gl ops) := by
    rw [← cntE_cnt]
    refine cntE_mono _ 0 fun k hk hp => ?_
    simp only [Nat.zero_add] at hp ⊢
    obtain ⟨oi, he⟩ := ise hk
    have hkp := hb' hp
    have hX : X k := by
      rcases h.pos.last with e | ⟨e, oe, e1, e2, e3⟩
      · omega
      · rcases Nat.lt_or_ge k e with q | q
        · rcases hst.pair k e oi oe he.1 e3.1 q with q' | ⟨_, _, q'⟩
          · exact h.done.anc hst e e2 k q'
          · exact absurd ⟨e3.2, .inl he.2⟩ q'
        · rw [show k = e by omega]; exact e2
    cases hbit : Nat.testBit (natAt (ancOf ops) k) j with
    | false => rfl
    | true => exact absurd (h.done.anc hst k hX j hbit) hr.2.1
  have cj := cntE_cnt (kdsOf Pr D nt gl ops) j
  unfold backAt fwdAt
  rw [cj]
  simp only [Nat.sub_eq] at *
  constructor <;> omega
theorem SI.below (hst : Stat Pr D nt gl ops) (hT : TrOk Pr D nt gl ops x ops.toList.length) (h : SI Pr D nt gl ops X x p g0 w0 g a w) (hr : Ready ops X j o) (hpj : p ≤ j) (hl : laterN (ancOf ops) j 0 (kdsOf Pr D nt gl ops) = false) :
    ∀ k, Nm g (x.C ops.toList.length) k → Nm g (x.C j) k := by
  intro k hk
  have hjl : j < ops.toList.length := (List.getElem?_eq_some_iff.1 hr.1).1
  refine ⟨?_, hk.2⟩
  rcases Nat.lt_or_ge k (x.C p) with q | q
  · have := le_C hT hpj (Nat.le_of_lt hjl); omega
  · obtain ⟨i, o', a1, a2, a3, rfl⟩ := h.heap.ok k q hk
    rcases Nat.lt_trichotomy i j with q | q | q
    · exact new_lt hT a3 q (Nat.le_of_lt hjl)
    · subst q; exact absurd a1 hr.2.1
    · have := laterN_get hl i (by rw [kds_get a3.1, a3.2.1]) (by omega)
      simp only [Nat.zero_add] at this
      exact absurd (h.done.anc hst i a1 j this) hr.2.1
end
end
end Go.FM
end

section
namespace Go.AbsM
section
variable {P : Program} {w : World} {g : Gh} {may : Nat → Prop} {S : List Store} {t : Store}
theorem HRep.inv_tup {as : List AV} {v : Value} {S : List Store} (h : HRep P w g S (.tup as) v) : ∃ vs : List Value, v = .tuple vs.toArray ∧ vs.length = as.length ∧ ∀ (i : Nat) (c : AV) (u : Value), as[i]? = some c → vs[i]? = some u → HRep1 P w g S c u := h
theorem HRep.of_one {x : AV} {v : Value} {S : List Store} (h : HRep1 P w g S x v) (hx : ∀ l, x ≠ .tup l) : HRep P w g S x v := by
  cases x <;> first | exact h | exact absurd rfl (hx _)
theorem HRep1.of_tup {as : List AV} {v : Value} {S : List Store} (h : HRep1 P w g S (.tup as) v) : False := h
def Gh.push (g : Gh) : Gh := { M := g.M, B := fun i k => match i with | 0 => 0 | i + 1 => g.B i k, C := fun i k => match i with | 0 => 0 | i + 1 => g.C i k }
def Gh.pop (g : Gh) : Gh := { M := g.M, B := fun i k => g.B (i + 1) k, C := fun i k => g.C (i + 1) k }
theorem AV.shift_shift (c : AV) (i : Nat) : (c.shift i).shift 1 = c.shift (i + 1) := by cases c <;> rfl
theorem CRep.push {c : AV} {v : Value} (h : CRep P w g S c v) : CRep P w g.push (t :: S) (c.shift 1) v := by cases c <;> exact h
theorem CRep.pop {c : AV} {v : Value} (h : CRep P w g (t :: S) (c.shift 1) v) : CRep P w g.pop S c v := by cases c <;> exact h
theorem HRep1.push {c : AV} {v : Value} (h : HRep1 P w g S c v) (hc : ∀ l, c ≠ .agg l) : HRep1 P w g.push (t :: S) (c.shift 1) v := by cases c <;> first | exact h | exact absurd rfl (hc _)
theorem HRep1.pop {c : AV} {v : Value} (h : HRep1 P w g (t :: S) (c.shift 1) v) (hc : ∀ l, c ≠ .agg l) : HRep1 P w g.pop S c v := by cases c <;> first | exact h | exact absurd rfl (hc _)
theorem SInv.push (h : SInv P w g may S) : SInv P w g.push may ([] :: S) := by
  refine ⟨fun i k cs hg => ?_, fun i k e xs hg => ?_, fun i k e xs hg => ?_, fun i k o i' k' o' hg hg' hl hl' he => ?_, h.mlt⟩
  · cases i with
    | zero => cases hg
    | succ i =>
      obtain ⟨h1, h2, vs, t, h3, h4, h5⟩ := h.box i k cs hg
      refine ⟨h1, h2, vs, t, h3, h4, fun j c u hc hu => ⟨?_, (h5 j c u hc hu).2⟩⟩
      rw [← AV.shift_shift]
      exact (h5 j c u hc hu).1.push
  · cases i with
    | zero => cases hg
    | succ i => exact h.arr i k e xs hg
  · cases i with
    | zero => cases hg
    | succ i => exact h.fz i k e xs hg
  · cases i with
    | zero => cases hg
    | succ i =>
      cases i' with
      | zero => cases hg'
      | succ i' =>
        have := h.inj i k o i' k' o' hg hg' hl hl' he
        exact ⟨by omega, this.2⟩
theorem SInv.pop (h : SInv P w g may (t :: S)) : SInv P w g.pop may S := by
  refine ⟨fun i k cs hg => ?_, fun i k e xs hg => h.arr (i + 1) k e xs hg, fun i k e xs hg => h.fz (i + 1) k e xs hg, fun i k o i' k' o' hg hg' hl hl' he => ?_, h.mlt⟩
  · obtain ⟨h1, h2, vs, t, h3, h4, h5⟩ := h.box (i + 1) k cs hg
    refine ⟨h1, h2, vs, t, h3, h4, fun j c u hc hu => ⟨?_, (h5 j c u hc hu).2⟩⟩
    have := (h5 j c u hc hu).1
    rw [← AV.shift_shift] at this
    exact this.pop
  · have := h.inj (i + 1) k o (i' + 1) k' o' hg hg' hl hl' he
    exact ⟨by omega, this.2⟩
theorem Kp.pop {S' : List Store} {t' : Store} {g' : Gh} (h : Kp 1 ([] :: S) g.push (t' :: S') g') : Kp 0 S g S' g'.pop :=
  ⟨fun i k cs _ hg => h.box (i + 1) k cs (by omega) hg, fun i k fz e xs _ hg => h.arr (i + 1) k fz e xs (by omega) hg⟩
def SlAt (P : Program) (w : World) (M : Nat → Nat → Prop) (e : TypeId) (xs : List AV) (v : Value) (b : Nat) : Prop :=
  0 < P.cellsOf e ∧ ∃ (cur us : List Value) (cap c : Nat), v = .slice (some ⟨b, 0, none⟩) xs.length c ∧ xs.length ≤ c ∧ c ≤ maxLen ∧ c * P.cellsOf e ≤ cur.length ∧
    w.heap[b]? = some (.cells cur.toArray e (0, 0)) ∧ cur.length = cap * P.cellsOf e ∧ cap ≤ maxLen ∧ xs.length ≤ cap ∧ RepL P w M e xs us ∧ cur.take (xs.length * P.cellsOf e) = flat us
def BoxAt (P : Program) (w : World) (M : Nat → Nat → Prop) (xs : List AV) (v : Value) (b : Nat) : Prop := ∃ cs, xs = [.agg cs] ∧
  v = .pointer (some ⟨b, 0, none⟩) ∧ cs.all AV.isVal = true ∧ ∃ (vs : List Value) (t : TypeId), w.heap[b]? = some (.cells vs.toArray t (0, 0)) ∧ vs.length = cs.length ∧
    ∀ (j : Nat) (c : AV) (u : Value), cs[j]? = some c → vs[j]? = some u → Rep P w M c u ∧ u.oneCell' = true
def OwnAt (P : Program) (may : Nat → Prop) (w : World) (g : Gh) (S : List Store) (e : TypeId) (xs : List AV) (v : Value) (b : Nat) : Prop :=
  may b ∧ (∀ o, ¬ g.M b o) ∧ (∀ i k o, getOb S i k = some o → o.loose = true → g.B i k ≠ b) ∧ ((Nat.beq e objE = false ∧ SlAt P w g.M e xs v b) ∨ (Nat.beq e objE = true ∧ BoxAt P w g.M xs v b))
def ORep (P : Program) (may : Nat → Prop) (w : World) (g : Gh) (S : List Store) (a : AV) (v : Value) (b : Nat) : Prop :=
  match a with
  | .own e xs => OwnAt P may w g S e xs v b
  | a => HRep1 P w g S a v
def OReps (P : Program) (may : Nat → Prop) (w : World) (g : Gh) (S : List Store) (as : List AV) (vs : List Value) : Prop :=
  vs.length = as.length ∧ ∃ bl : Nat → Nat, (∀ (i : Nat) (c : AV) (u : Value), as[i]? = some c → vs[i]? = some u → ORep P may w g S c u (bl i)) ∧
    ∀ (i j : Nat) (e : TypeId) (xs : List AV) (e' : TypeId) (xs' : List AV), as[i]? = some (.own e xs) → as[j]? = some (.own e' xs') → bl i = bl j → i = j
def ResRep (P : Program) (may : Nat → Prop) (w : World) (g : Gh) (S : List Store) (r : AV) (v : Value) : Prop :=
  match r with
  | .tup as => ∃ vs : List Value, v = .tuple vs.toArray ∧ OReps P may w g S as vs
  | r => ∃ b, ORep P may w g S r v b
def CallC (P : Program) (f : FuncId) (args : List AV) (S S' : List Store) (r : AV) : Prop :=
  ∀ (may : Nat → Prop) (w : World) (g : Gh) (vs : List Value), SInv P w g may S → (∀ b, w.heap.size ≤ b → may b) → vs.length = args.length →
    (∀ (i : Nat) (x : AV) (v : Value), args[i]? = some x → vs[i]? = some v → HRep P w g.push ([] :: S) x v) →
    Calls P f vs.toArray w fun e w' => ∃ v g', e = .returned v ∧ Fr may w g.M w' g'.M ∧ SInv P w' g' may S' ∧ Kp 0 S g S' g' ∧ ResRep P may w' g' S' r v
theorem loadAt_var {t : TypeId} {v u : Value} (h : (Instr.loadAt t v).run P w = .ok u w) : ∃ A, v = .pointer (some A) ∧ (loadVar t A).run P w = .ok u w := by
  cases v with
  | pointer A =>
    cases A with
    | none => simp [Instr.loadAt, Instr.sureAddr, stuck] at h
    | some A => exact ⟨A, rfl, by simpa [Instr.loadAt, Instr.sureAddr] using h⟩
  | _ => simp [Instr.loadAt, Instr.sureAddr, stuck] at h
section
variable {s s' : St} {a : Act}
def HReps (P : Program) (w : World) (g : Gh) (S : List Store) (as : List AV) (vs : List Value) : Prop :=
  vs.length = as.length ∧ ∀ (i : Nat) (c : AV) (u : Value), as[i]? = some c → vs[i]? = some u → HRep P w g S c u
theorem HReps.nil {S : List Store} : HReps P w g S [] [] := ⟨rfl, fun i c u h => by simp at h⟩
theorem HReps.cons {S : List Store} {x : AV} {as : List AV} {v : Value} {vs : List Value} (h : HRep P w g S x v) (k : HReps P w g S as vs) : HReps P w g S (x :: as) (v :: vs) := by
  refine ⟨by simp [k.1], fun i c u hc hu => ?_⟩
  cases i with
  | zero => simp at hc hu; subst hc; subst hu; exact h
  | succ i => simp at hc hu; exact k.2 i c u hc hu
theorem HReps.head {S : List Store} {x : AV} {as : List AV} {v : Value} {vs : List Value} (h : HReps P w g S (x :: as) (v :: vs)) : HRep P w g S x v := h.2 0 x v rfl rfl
theorem HReps.tail {S : List Store} {x : AV} {as : List AV} {v : Value} {vs : List Value} (h : HReps P w g S (x :: as) (v :: vs)) : HReps P w g S as vs :=
  ⟨by have := h.1; simpa using this, fun i c u hc hu => h.2 (i + 1) c u (by simpa using hc) (by simpa using hu)⟩
theorem HReps.split {S : List Store} {x : AV} {as : List AV} {vs : List Value} (h : HReps P w g S (x :: as) vs) : ∃ v us, vs = v :: us ∧ HRep P w g S x v ∧ HReps P w g S as us := by
  cases vs with
  | nil => have := h.1; simp at this
  | cons v us => exact ⟨v, us, rfl, h.head, h.tail⟩
theorem HReps.split0 {S : List Store} {vs : List Value} (h : HReps P w g S [] vs) : vs = [] := by
  have := h.1; simpa using this
theorem resultAll_sound (hs : Sim P may s a w g) {rs : List ResultVar} {l : List AV} {f : ResultVar → Sem Value} (hf : ∀ t, f (.tmp t) = pure (a.tmps.getD t undef)) (hf' : ∀ c t, f (.cell c t) = do loadVar t (← asAddr (a.tmps.getD c undef))) (h : resultAll P s rs = some l) :
    ∃ vs : List Value, (rs.mapM f).run P w = .ok vs w ∧ HReps P w g s.stores l vs := by
  induction rs generalizing l with
  | nil => simp [resultAll] at h; subst h; exact ⟨[], rfl, .nil⟩
  | cons r rs ih =>
    simp only [resultAll] at h
    split at h
    · rename_i x k hx hk
      simp only [Option.some.injEq] at h; subst h
      obtain ⟨vs, hrun, hv⟩ := ih hk
      cases r with
      | tmp t =>
        simp only [resultOne, Option.some.injEq] at hx; subst hx
        exact ⟨_ :: vs, by simp only [List.mapM_cons, hf, Sem.run_bind, Sem.run_pure, Result.andThen_ok, hrun], .cons (hs.get t) hv⟩
      | cell c t =>
        simp only [resultOne] at hx
        obtain ⟨u, h1, h2⟩ := loadA_sound hs.inv (hs.get c) hx
        obtain ⟨A, hA, h1⟩ := loadAt_var h1
        exact ⟨u :: vs, by simp only [List.mapM_cons, hf', hA, asAddr, Sem.run_bind, Sem.run_pure, Result.andThen_ok, h1, hrun], .cons h2 hv⟩
    · cases h
theorem HReps.settles {s' : St} {g' : Gh} (h : Settles P may s a w g s' g') {as : List AV} {vs : List Value} (k : HReps P w g s.stores as vs) : HReps P w g' s'.stores as vs :=
  ⟨k.1, fun i c u hc hu => h.hrep (S := []) (k.2 i c u hc hu)⟩
theorem settleOne_sound (hs : Sim P may s a w g) {x y : AV} {v : Value} (hv : HRep P w g s.stores x v) (h : settleOne s x = some (s', y)) : ∃ g', Settles P may s a w g s' g' ∧ HRep P w g' s'.stores y v := by
  unfold settleOne at h
  split at h
  · obtain ⟨g', h1, h2⟩ := resolve_sound hs hv h
    exact ⟨g', h1, HRep.of_rep h2⟩
  · split at h
    · simp only [Option.some.injEq, Prod.mk.injEq] at h
      obtain ⟨rfl, rfl⟩ := h
      exact ⟨g, .refl hs, hv⟩
    · have hv : CRep P w g s.stores (.arr 0 _ _ _ _ _) v := hv
      obtain ⟨g', h1, h2, _⟩ := resolve1_sound hs hv h
      exact ⟨g', h1, HRep.of_rep h2⟩
  · simp only [Option.some.injEq, Prod.mk.injEq] at h
    obtain ⟨rfl, rfl⟩ := h
    exact ⟨g, .refl hs, hv⟩
theorem settle_sound (hs : Sim P may s a w g) {xs ys : List AV} {vs : List Value} (hv : HReps P w g s.stores xs vs) (h : settle s xs = some (s', ys)) : ∃ g', Settles P may s a w g s' g' ∧ HReps P w g' s'.stores ys vs := by
  induction xs generalizing s g ys vs with
  | nil =>
    simp only [settle, Option.some.injEq, Prod.mk.injEq] at h
    obtain ⟨rfl, rfl⟩ := h
    exact ⟨g, .refl hs, hv⟩
  | cons x r ih =>
    simp only [settle] at h
    split at h
    · rename_i s1 b hb
      split at h
      · rename_i s2 l hl
        simp only [Option.some.injEq, Prod.mk.injEq] at h
        obtain ⟨rfl, rfl⟩ := h
        obtain ⟨v, us, rfl, hx, hr⟩ := hv.split
        obtain ⟨g1, h1, hb'⟩ := settleOne_sound hs hx hb
        obtain ⟨g2, h2, hl'⟩ := ih h1.1 (hr.settles h1) hl
        exact ⟨g2, h1.trans h2, .cons (h2.hrep (S := []) hb') hl'⟩
      · cases h
    · cases h
theorem wholeA_spec {k : Nat} {e : TypeId} {lo n tot : Nat} (h : wholeA s k e lo n tot = true) : ∃ xs, getOb s.stores 0 k = some (.arr false e xs) ∧ xs.length = tot ∧ lo = 0 ∧ n = tot := by
  unfold wholeA at h
  split at h
  · rename_i fz e' xs hg
    simp only [Bool.and_eq_true, Bool.not_eq_true', beq_iff_eq] at h
    obtain ⟨⟨⟨⟨rfl, h1⟩, rfl⟩, h2⟩, h3⟩ := h
    exact ⟨xs, hg, h1, h2, h3⟩
  · cases h
theorem outOne_sound {t : Store} {S : List Store} (hst : s.stores = t :: S) (hi : SInv P w g may s.stores) {used us' : List Nat} {x y : AV} {v : Value} (hv : HRep P w g s.stores x v) (h : outOne s used x = some (us', y)) :
    (∃ k e xs, y = .own e xs ∧ us' = k :: used ∧ k ∉ used ∧ (∃ o, getOb s.stores 0 k = some o ∧ o.loose = true) ∧ OwnAt P may w g.pop S e xs v (g.B 0 k)) ∨
    ((∀ e xs, y ≠ .own e xs) ∧ us' = used ∧ HRep1 P w g.pop S y v) := by
  unfold outOne at h
  split at h
  · rename_i k e lo n tot
    split at h
    · rename_i hc
      split at h
      · rename_i fz e' xs hg
        simp only [Option.some.injEq, Prod.mk.injEq] at h
        obtain ⟨rfl, rfl⟩ := h
        have hbx := hc.2
        obtain ⟨ys, hg', hlen, rfl, rfl⟩ := wholeA_spec hc.1.1
        rw [hg] at hg'
        simp only [Option.some.injEq, Ob.arr.injEq] at hg'
        obtain ⟨rfl, rfl, rfl⟩ := hg'
        refine .inl ⟨k, _, _, rfl, rfl, by simpa using hc.1.2, ⟨_, hg, rfl⟩, ?_⟩
        obtain ⟨fz, ys, hg2, ht, hq⟩ := hv.inv_arr
        rw [hg] at hg2
        simp only [Option.some.injEq, Ob.arr.injEq] at hg2
        obtain ⟨rfl, _, rfl⟩ := hg2
        obtain ⟨hln, A, c, rfl, hnc, hcm, hA, hC⟩ := (hq.1 hlen)
        obtain ⟨h1, h2, he, cur, us, cap, h3, h4, h5, h6, h7, h8, h9⟩ := hi.arr 0 k _ _ hg
        refine ⟨h1, h2, fun i k' o ho hl heq => ?_, .inl ⟨hbx, he, cur, us, cap, c, ?_, by omega, hcm, ?_, h3, by rw [h4, h5], h6, h7, h8, h9⟩⟩
        · have hh : getOb s.stores (i + 1) k' = some o := by rw [hst]; exact ho
          have := hi.inj (i + 1) k' o 0 k _ hh hg hl rfl heq
          omega
        · rw [hA (.inl rfl), ← hlen]; simp
        · rw [h4]; simpa using hC rfl
      · cases h
    · cases h
  · rename_i k
    split at h
    · rename_i cs hg
      split at h
      · rename_i hc
        simp only [Option.some.injEq, Prod.mk.injEq] at h
        obtain ⟨rfl, rfl⟩ := h
        refine .inl ⟨k, _, _, rfl, rfl, by simpa using hc.2, ⟨_, hg, rfl⟩, ?_⟩
        have hv' : CRep P w g s.stores (.ref 0 k 0) v := hv
        obtain ⟨_, rfl⟩ := hv'
        obtain ⟨h1, h2, vs, t0, h3, h4, h5⟩ := hi.box 0 k cs hg
        refine ⟨h1, h2, fun i k' o ho hl heq => ?_, .inr ⟨rfl, cs, rfl, rfl, hc.1, vs, t0, h3, h4, fun j c u hcj hu => ?_⟩⟩
        · have hh : getOb s.stores (i + 1) k' = some o := by rw [hst]; exact ho
          have := hi.inj (i + 1) k' o 0 k _ hh hg hl rfl heq
          omega
        · have hval := List.all_eq_true.1 hc.1 c (List.mem_of_getElem? hcj)
          obtain ⟨q1, q2⟩ := h5 j c u hcj hu
          rw [AV.shift_zero] at q1
          exact ⟨q1.rep hval, q2⟩
      · cases h
    · cases h
  · simp only [Option.some.injEq, Prod.mk.injEq] at h
    obtain ⟨rfl, rfl⟩ := h
    rw [hst] at hv
    exact .inr ⟨fun e xs => by simp, rfl, HRep1.of_cell (CRep.pop hv)⟩
  · simp only [Option.some.injEq, Prod.mk.injEq] at h
    obtain ⟨rfl, rfl⟩ := h
    rw [hst] at hv
    exact .inr ⟨fun e xs => by simp, rfl, HRep1.of_cell (CRep.pop hv)⟩
  · simp only [Option.some.injEq, Prod.mk.injEq] at h
    obtain ⟨rfl, rfl⟩ := h
    exact .inr ⟨fun e xs => by simp, rfl, hv⟩
  · simp only [Option.some.injEq, Prod.mk.injEq] at h
    obtain ⟨rfl, rfl⟩ := h
    exact .inr ⟨fun e xs => by simp, rfl, hv⟩
  · simp only [Option.some.injEq, Prod.mk.injEq] at h
    obtain ⟨rfl, rfl⟩ := h
    exact .inr ⟨fun e xs => by simp, rfl, hv⟩
  · simp only [Option.some.injEq, Prod.mk.injEq] at h
    obtain ⟨rfl, rfl⟩ := h
    exact .inr ⟨fun e xs => by simp, rfl, hv⟩
  · simp only [Option.some.injEq, Prod.mk.injEq] at h
    obtain ⟨rfl, rfl⟩ := h
    exact .inr ⟨fun e xs => by simp, rfl, hv⟩
  · rename_i cs
    split at h
    · rename_i hall
      simp only [Option.some.injEq, Prod.mk.injEq] at h
      obtain ⟨rfl, rfl⟩ := h
      refine .inr ⟨fun e xs => by simp, rfl, ?_⟩
      obtain ⟨vs, rfl, hl, hr⟩ := hv.inv_agg
      refine ⟨vs, rfl, hl, fun i c u hc hu => ⟨?_, (hr i c u hc hu).2⟩⟩
      have hval := List.all_eq_true.1 hall c (List.mem_of_getElem? hc)
      exact CRep.of_rep (g := g.pop) ((hr i c u hc hu).1.rep hval) hval
    · cases h
  · cases h
theorem outAll_sound {t : Store} {S : List Store} (hst : s.stores = t :: S) (hi : SInv P w g may s.stores) {used : List Nat} {xs ys : List AV} {vs : List Value} (hv : HReps P w g s.stores xs vs) (h : outAll s used xs = some ys) :
    vs.length = ys.length ∧ ∃ ks : Nat → Nat, (∀ (i : Nat) (c : AV) (u : Value), ys[i]? = some c → vs[i]? = some u → ORep P may w g.pop S c u (g.B 0 (ks i))) ∧
      (∀ (i : Nat) (e : TypeId) (zs : List AV), ys[i]? = some (.own e zs) → ks i ∉ used ∧ ∃ o, getOb s.stores 0 (ks i) = some o ∧ o.loose = true) ∧
      ∀ (i j : Nat) (e : TypeId) (zs : List AV) (e' : TypeId) (zs' : List AV), ys[i]? = some (.own e zs) → ys[j]? = some (.own e' zs') → ks i = ks j → i = j := by
  induction xs generalizing used ys vs with
  | nil =>
    simp only [outAll, Option.some.injEq] at h; subst h
    have := hv.split0; subst this
    exact ⟨rfl, fun _ => 0, fun i c u hc => by simp at hc, fun i e zs hc => by simp at hc, fun i j e zs e' zs' hc => by simp at hc⟩
  | cons x r ih =>
    simp only [outAll] at h
    split at h
    · rename_i u1 y hy
      split at h
      · rename_i l hl
        simp only [Option.some.injEq] at h; subst h
        obtain ⟨v, us, rfl, hx, hr⟩ := hv.split
        obtain ⟨hlen, ks, h1, h2, h3⟩ := ih hr hl
        rcases outOne_sound hst hi hx hy with ⟨k, e, zs, rfl, rfl, hk, hg, ho⟩ | ⟨hno, rfl, ho⟩
        · refine ⟨by simp [hlen], fun i => match i with | 0 => k | i + 1 => ks i, fun i c u hc hu => ?_, fun i e' zs' hc => ?_, fun i j e1 zs1 e2 zs2 hi' hj' he => ?_⟩
          · cases i with
            | zero => simp at hc hu; subst hc; subst hu; exact ho
            | succ i => simp at hc hu; exact h1 i c u hc hu
          · cases i with
            | zero => exact ⟨hk, hg⟩
            | succ i =>
              simp at hc
              obtain ⟨q1, q2⟩ := h2 i _ _ hc
              exact ⟨fun hm => q1 (List.mem_cons_of_mem _ hm), q2⟩
          · cases i with
            | zero =>
              cases j with
              | zero => rfl
              | succ j =>
                simp at hj'
                have := (h2 j _ _ hj').1
                simp only at he
                rw [← he] at this
                exact absurd List.mem_cons_self this
            | succ i =>
              cases j with
              | zero =>
                simp at hi'
                have := (h2 i _ _ hi').1
                simp only at he
                rw [he] at this
                exact absurd List.mem_cons_self this
              | succ j =>
                simp at hi' hj'
                rw [h3 i j _ _ _ _ hi' hj' he]
        · refine ⟨by simp [hlen], fun i => match i with | 0 => 0 | i + 1 => ks i, fun i c u hc hu => ?_, fun i e' zs' hc => ?_, fun i j e1 zs1 e2 zs2 hi' hj' he => ?_⟩
          · cases i with
            | zero =>
              simp at hc hu; subst hc; subst hu
              unfold ORep
              split
              · exact absurd rfl (hno _ _)
              · exact ho
            | succ i => simp at hc hu; exact h1 i c u hc hu
          · cases i with
            | zero => simp at hc; exact absurd hc (hno _ _)
            | succ i => simp at hc; exact h2 i _ _ hc
          · cases i with
            | zero => simp at hi'; exact absurd hi' (hno _ _)
            | succ i =>
              cases j with
              | zero => simp at hj'; exact absurd hj' (hno _ _)
              | succ j =>
                simp at hi' hj'
                rw [h3 i j _ _ _ _ hi' hj' he]
      · cases h
    · cases h
end
end
end Go.AbsM
end

section
namespace Go.AbsM
section
variable {P : Program} {w : World} {g : Gh} {may : Nat → Prop} {s s' : St} {a : Act}
def Lone (g : Gh) (S : List Store) (b : Nat) : Prop := (∀ o, ¬ g.M b o) ∧ ∀ i k o, getOb S i k = some o → o.loose = true → g.B i k ≠ b
theorem Lone.create {S : List Store} (hne : S ≠ []) {b b0 c0 k : Nat} {o : Ob} (h : Lone g S b) (hb : b ≠ b0) : Lone (g.new k b0 c0) (createS S k o) b := by
  refine ⟨h.1, fun i j p hp hl he => ?_⟩
  rw [getOb_createS hne] at hp
  by_cases h0 : i = 0
  · subst h0
    rw [if_pos rfl] at hp
    by_cases hj : j = k
    · subst hj
      simp [Gh.new] at he
      exact hb he.symm
    · rw [if_neg hj] at hp
      obtain ⟨q, hq, rfl⟩ := Option.map_eq_some_iff.1 hp
      have hl' : q.loose = true := by cases q <;> exact hl
      refine h.2 0 j q hq hl' ?_
      simpa [Gh.new, hj] using he
  · rw [if_neg h0] at hp
    refine h.2 i j p hp hl ?_
    simpa [Gh.new, h0] using he
theorem own_create (hs : Sim P may s a w g) {e : TypeId} {xs : List AV} {v : Value} {b : Nat} (ho : OwnAt P may w g s.stores e xs v b) (k : Nat) (hbx : Nat.beq e objE = false) :
    ∃ c0, Sim P may (s.create k (.arr false e xs)) a w (g.new k b c0) ∧ HRep1 P w (g.new k b c0) (createS s.stores k (.arr false e xs)) (.arr 0 k e 0 xs.length xs.length) v := by
  obtain ⟨h1, h2, h3, h4⟩ := ho
  rcases h4 with ⟨_, h4⟩ | ⟨h4, _⟩
  case inr => rw [hbx] at h4; cases h4
  obtain ⟨he, cur, us, cap, c, rfl, hxc, hcm, hcc, hh, hcur, hcap, hxcap, hr, ht⟩ := h4
  refine ⟨cap * P.cellsOf e, hs.createG (Ext.refl w) h1 h2 h3 ⟨rfl, he, cur, us, cap, hh, hcur, rfl, hcap, hxcap, hr, ht⟩, false, xs, ?_, Nat.le_refl _, fun _ => ⟨by omega, _, c, rfl, hxc, hcm, fun _ => by simp [Gh.new], fun _ => ?_⟩, rfl⟩
  · rw [getOb_createS hs.ne]; simp
  · simp [Gh.new]; omega
theorem box_create (hs : Sim P may s a w g) {e : TypeId} {xs : List AV} {v : Value} {b : Nat} (ho : OwnAt P may w g s.stores e xs v b) (k : Nat) (hbx : Nat.beq e objE = true) :
    ∃ cs c0, xs = [.agg cs] ∧ Sim P may (s.create k (.box cs)) a w (g.new k b c0) ∧ HRep1 P w (g.new k b c0) (createS s.stores k (.box cs)) (.ref 0 k 0) v := by
  obtain ⟨h1, h2, h3, h4⟩ := ho
  rcases h4 with ⟨h4, _⟩ | ⟨_, h4⟩
  case inl => rw [hbx] at h4; cases h4
  obtain ⟨cs, rfl, rfl, hval, vs, t, hh, hl, hr⟩ := h4
  refine ⟨cs, 0, rfl, hs.createG (Ext.refl w) h1 h2 h3 ⟨vs, t, hh, hl, fun j c u hc hu => ⟨CRep.of_rep (g := g.new k b 0) (hr j c u hc hu).1 (List.all_eq_true.1 hval c (List.mem_of_getElem? hc)), (hr j c u hc hu).2⟩⟩, ⟨cs, ?_⟩, ?_⟩
  · rw [getOb_createS hs.ne]; simp
  · simp [Gh.new]
theorem HRep1.kill {S : List Store} {x : AV} {v : Value} (h : HRep1 P w g S x v) (k : Nat) : HRep1 P w g S (x.kill1 k) v := by
  have cell : ∀ {c : AV} {u : Value}, CRep P w g S c u → CRep P w g S (c.killCell k) u := by
    intro c u h
    cases c with
    | arr i j e lo n tot => cases i with
      | zero => simp only [AV.killCell]; split
                · trivial
                · exact h
      | succ i => exact h
    | ref i j off => cases i with
      | zero => simp only [AV.killCell]; split
                · trivial
                · exact h
      | succ i => exact h
    | ear i j e tot m off => cases i with
      | zero => simp only [AV.killCell]; split
                · trivial
                · exact h
      | succ i => exact h
    | _ => exact h
  cases x with
  | agg cs =>
    obtain ⟨vs, hv, hl, hr⟩ := h
    refine ⟨vs, hv, by simpa using hl, fun i c u hc hu => ?_⟩
    simp only [List.getElem?_map, Option.map_eq_some_iff] at hc
    obtain ⟨c', hc, rfl⟩ := hc
    exact ⟨cell (hr i c' u hc hu).1, (hr i c' u hc hu).2⟩
  | _ =>
    unfold HRep1 at h
    exact HRep1.of_cell (cell h)
theorem HRep1.kills {S : List Store} {v : Value} (n : Nat) : ∀ (k : Nat) {x : AV}, HRep1 P w g S x v → HRep1 P w g S (x.kills k n) v := by
  induction n with
  | zero => intro k x h; exact h
  | succ n ih => intro k x h; exact ih (k + 1) (h.kill k)
theorem AV.killCell_comm (k j : Nat) (x : AV) : (x.killCell k).killCell j = (x.killCell j).killCell k := by
  cases x with
  | arr i m e lo n tot => cases i with
    | zero => by_cases h1 : m = k <;> by_cases h2 : m = j <;> simp_all [AV.killCell]
    | succ i => rfl
  | ref i m off => cases i with
    | zero => by_cases h1 : m = k <;> by_cases h2 : m = j <;> simp_all [AV.killCell]
    | succ i => rfl
  | ear i m e tot q off => cases i with
    | zero => by_cases h1 : m = k <;> by_cases h2 : m = j <;> simp_all [AV.killCell]
    | succ i => rfl
  | _ => rfl
theorem AV.kill1_comm (k j : Nat) (x : AV) : (x.kill1 k).kill1 j = (x.kill1 j).kill1 k := by
  cases x with
  | agg cs => simp only [AV.kill1, List.map_map]; congr 2; funext c; exact AV.killCell_comm k j c
  | arr i m e lo n tot => cases i with
    | zero => by_cases h1 : m = k <;> by_cases h2 : m = j <;> simp_all [AV.kill1, AV.killCell]
    | succ i => rfl
  | ref i m off => cases i with
    | zero => by_cases h1 : m = k <;> by_cases h2 : m = j <;> simp_all [AV.kill1, AV.killCell]
    | succ i => rfl
  | ear i m e tot q off => cases i with
    | zero => by_cases h1 : m = k <;> by_cases h2 : m = j <;> simp_all [AV.kill1, AV.killCell]
    | succ i => rfl
  | _ => rfl
theorem AV.kills_kill1 (n : Nat) : ∀ (k j : Nat) (x : AV), (x.kill1 j).kills k n = (x.kills k n).kill1 j := by
  induction n with
  | zero => intro k j x; rfl
  | succ n ih => intro k j x; simp only [AV.kills]; rw [AV.kill1_comm, ih]
theorem kills_own (e : TypeId) (xs : List AV) (n : Nat) : ∀ k, (AV.own e xs).kills k n = .own e xs := by
  induction n with
  | zero => intro k; rfl
  | succ n ih => intro k; exact ih (k + 1)
theorem inOne_sound (hs : Sim P may s a w g) {x : AV} {v : Value} {b : Nat} (hx : ORep P may w g s.stores x v b) (k : Nat) (hk : k < 500000) :
    ∃ g', Sim P may (inOne s k x).1 a w g' ∧ g'.M = g.M ∧ Kp 1 s.stores g (inOne s k x).1.stores g' ∧ HRep1 P w g' (inOne s k x).1.stores (inOne s k x).2 v ∧
      (∀ (y : AV) (u : Value), HRep1 P w g s.stores y u → HRep1 P w g' (inOne s k x).1.stores (y.kill1 k) u) ∧ ∀ c, Lone g s.stores c → ((∃ e xs, x = .own e xs) → c ≠ b) → Lone g' (inOne s k x).1.stores c := by
  by_cases ho : ∃ e xs, x = .own e xs
  · obtain ⟨e, xs, rfl⟩ := ho
    cases hbx : Nat.beq e objE with
    | false =>
      have hin : inOne s k (.own e xs) = (s.create k (.arr false e xs), .arr 0 k e 0 xs.length xs.length) := by simp only [inOne, hbx]
      rw [hin]
      obtain ⟨c0, h1, h2⟩ := own_create hs hx k hbx
      exact ⟨_, h1, rfl, Kp.create hs.ne k hk _ b c0, h2, fun y u hy => hy.create (Ext.refl w) hs.inv.mlt hs.ne, fun c hc hne => hc.create hs.ne (hne ⟨e, xs, rfl⟩)⟩
    | true =>
      obtain ⟨cs, c0, rfl, h1, h2⟩ := box_create hs hx k hbx
      have hin : inOne s k (.own e [.agg cs]) = (s.create k (.box cs), .ref 0 k 0) := by simp only [inOne, hbx]
      rw [hin]
      exact ⟨_, h1, rfl, Kp.create hs.ne k hk _ b c0, h2, fun y u hy => hy.create (Ext.refl w) hs.inv.mlt hs.ne, fun c hc hne => hc.create hs.ne (hne ⟨e, _, rfl⟩)⟩
  · have h1 : inOne s k x = (s, x) := by cases x <;> first | rfl | exact absurd ⟨_, _, rfl⟩ ho
    rw [h1]
    refine ⟨g, hs, rfl, Kp.refl _ _ _, ?_, fun y u hy => hy.kill k, fun c hc _ => hc⟩
    cases x <;> first | exact hx | exact absurd ⟨_, _, rfl⟩ ho
theorem OwnAt.lone {S : List Store} {e : TypeId} {xs : List AV} {v : Value} {b : Nat} (h : OwnAt P may w g S e xs v b) : Lone g S b := ⟨h.2.1, h.2.2.1⟩
theorem OwnAt.move {S S' : List Store} {g' : Gh} {e : TypeId} {xs : List AV} {v : Value} {b : Nat} (h : OwnAt P may w g S e xs v b) (hM : g'.M = g.M) (hl : Lone g' S' b) : OwnAt P may w g' S' e xs v b := by
  obtain ⟨h1, h2, h3, h4⟩ := h
  exact ⟨h1, hl.1, hl.2, by rw [hM]; exact h4⟩
theorem inAll_sound (hs : Sim P may s a w g) {as : List AV} {vs : List Value} {bl : Nat → Nat} (hl : vs.length = as.length) (hr : ∀ (i : Nat) (c : AV) (u : Value), as[i]? = some c → vs[i]? = some u → ORep P may w g s.stores c u (bl i))
    (hd : ∀ (i j : Nat) (e : TypeId) (xs : List AV) (e' : TypeId) (xs' : List AV), as[i]? = some (.own e xs) → as[j]? = some (.own e' xs') → bl i = bl j → i = j) (k : Nat) (hk : k + as.length ≤ 500000) :
    ∃ g', Sim P may (inAll s k as).1 a w g' ∧ g'.M = g.M ∧ Kp 1 s.stores g (inAll s k as).1.stores g' ∧ vs.length = (inAll s k as).2.length ∧
      (∀ (i : Nat) (c : AV) (u : Value), (inAll s k as).2[i]? = some c → vs[i]? = some u → HRep1 P w g' (inAll s k as).1.stores c u) ∧
      (∀ (y : AV) (u : Value), HRep1 P w g s.stores y u → HRep1 P w g' (inAll s k as).1.stores (y.kills k as.length) u) ∧
      ∀ c, Lone g s.stores c → (∀ i e xs, as[i]? = some (.own e xs) → c ≠ bl i) → Lone g' (inAll s k as).1.stores c := by
  induction as generalizing k vs bl with
  | nil => exact ⟨g, hs, rfl, Kp.refl _ _ _, hl, fun i c u hc => by simp [inAll] at hc, fun y u hy => hy, fun c hc _ => hc⟩
  | cons x r ih =>
    cases vs with
    | nil => simp at hl
    | cons v us =>
      obtain ⟨g1, h1, hM1, hK1, hl1, hr1, ht1, hlo1⟩ := ih (vs := us) (bl := fun i => bl (i + 1)) (by simpa using hl) (fun i c u hc hu => hr (i + 1) c u (by simpa using hc) (by simpa using hu))
        (fun i j e xs e' xs' hi hj he => by have := hd (i + 1) (j + 1) e xs e' xs' (by simpa using hi) (by simpa using hj) he; omega) (k + 1) (by rw [List.length_cons] at hk; omega)
      have hx := hr 0 x v rfl rfl
      have hx1 : ORep P may w g1 (inAll s (k + 1) r).1.stores (x.kills (k + 1) r.length) v (bl 0) := by
        by_cases ho : ∃ e xs, x = .own e xs
        · obtain ⟨e, xs, rfl⟩ := ho
          rw [kills_own]
          refine OwnAt.move hx hM1 (hlo1 _ (OwnAt.lone hx) fun i e' xs' hi he => ?_)
          have := hd 0 (i + 1) e xs e' xs' rfl (by simpa using hi) he
          omega
        · have hx' : HRep1 P w g s.stores x v := by cases x <;> first | exact hx | exact absurd ⟨_, _, rfl⟩ ho
          have := ht1 x v hx'
          unfold ORep
          split
          · rename_i e; rw [e] at this; exact this.elim
          · exact this
      obtain ⟨g2, h2, hM2, hK2, hr2, ht2, hlo2⟩ := inOne_sound h1 hx1 k (by rw [List.length_cons] at hk; omega)
      refine ⟨g2, h2, hM2.trans hM1, hK1.trans hK2, by simp [inAll, hl1], fun i c u hc hu => ?_, fun y u hy => ?_, fun c hc hne => ?_⟩
      · simp only [inAll] at hc
        cases i with
        | zero => simp at hc hu; subst hc; subst hu; exact hr2
        | succ i =>
          simp only [List.getElem?_cons_succ, List.getElem?_map, Option.map_eq_some_iff] at hc hu
          obtain ⟨c', hc, rfl⟩ := hc
          exact ht2 c' u (hr1 i c' u hc hu)
      · have := ht2 _ u (ht1 y u hy)
        rw [← AV.kills_kill1] at this
        exact this
      · refine hlo2 c (hlo1 c hc fun i e xs hi => hne (i + 1) e xs (by simpa using hi)) fun ⟨e, xs, he⟩ => ?_
        by_cases ho : ∃ e xs, x = .own e xs
        · obtain ⟨e', xs', rfl⟩ := ho
          exact hne 0 e' xs' rfl
        · exfalso
          rw [he] at hx1
          have hx' : HRep1 P w g s.stores x v := by cases x <;> first | exact hx | exact absurd ⟨_, _, rfl⟩ ho
          have := ht1 x v hx'
          rw [he] at this
          exact this.elim
theorem bindA_sound (hs : Sim P may s a w g) {r : AV} {v : Value} (hr : ResRep P may w g s.stores r v) (d : Option Nat) : Leaves P may s w g (bindA s d r) (a.put d v) w := by
  cases d with
  | none => exact .same hs rfl
  | some k =>
    by_cases ht : ∃ as, r = .tup as
    · obtain ⟨as, rfl⟩ := ht
      obtain ⟨vs, rfl, hl, bl, h1, h2⟩ := hr
      by_cases hk : home k 0 + as.length ≤ 500000
      case neg =>
        have hb : bindA s (some k) (.tup as) = s.put (some k) .dead := by simp only [bindA, if_neg hk]
        rw [hb]
        exact ⟨g, hs.put (x := .dead) trivial (some k), Fr.refl _ _ _, by rw [put_stores]; exact Kp.refl _ _ _⟩
      have hb : bindA s (some k) (.tup as) = (inAll s (home k 0) as).1.put (some k) (.tup (inAll s (home k 0) as).2) := by simp only [bindA, if_pos hk]
      rw [hb]
      obtain ⟨g', q1, q2, q3, q4, q5, _⟩ := inAll_sound hs hl h1 h2 (home k 0) hk
      refine ⟨g', q1.put (x := .tup (inAll s (home k 0) as).2) ⟨vs, rfl, q4, q5⟩ (some k), ?_, q3⟩
      rw [q2]; exact Fr.refl _ _ _
    · obtain ⟨b, ho⟩ : ∃ b, ORep P may w g s.stores r v b := by cases r <;> first | exact hr | exact absurd ⟨_, rfl⟩ ht
      by_cases hk : k < 500000
      case neg =>
        have hb : bindA s (some k) r = s.put (some k) .dead := by cases r <;> first | exact absurd ⟨_, rfl⟩ ht | (simp only [bindA, if_neg hk])
        rw [hb]
        exact ⟨g, hs.put (x := .dead) trivial (some k), Fr.refl _ _ _, by rw [put_stores]; exact Kp.refl _ _ _⟩
      obtain ⟨g', q1, q2, q3, q4, _⟩ := inOne_sound hs ho k hk
      have hb : bindA s (some k) r = (inOne s k r).1.put (some k) (inOne s k r).2 := by cases r <;> first | exact absurd ⟨_, rfl⟩ ht | (simp only [bindA, if_pos hk])
      rw [hb]
      refine ⟨g', q1.put (HRep.of_one q4 fun l e => ?_) (some k), ?_, ?_⟩
      · rw [e] at q4; exact q4.elim
      · rw [q2]; exact Fr.refl _ _ _
      · rw [put_stores]; exact q3
end
end Go.AbsM
end
