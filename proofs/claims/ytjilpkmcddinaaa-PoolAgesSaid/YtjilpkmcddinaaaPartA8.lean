/-
  Texts of a proof over the translated program: proved evaluators and walks, part 8 of 20.
-/
import Derived.Test.YtjilpkmcddinaaaPartA7
import Derived.Below
import Derived.Great.BuildSlice
import Derived.Laws.CopyRow
import Derived.Laws.IdiomStrings
import Derived.Lib.SlKeysI
import Derived.MapKept
import Derived.Maps.Own
import Derived.Orders
import Derived.WalkKit
set_option linter.unusedVariables false
set_option linter.unusedSimpArgs false
set_option linter.unusedSectionVars false
set_option linter.unnecessarySimpa false
section
namespace Go.FM
noncomputable section
open Go.Maps Go.WideElems
def insI (a : Int) : List Int → List Int
  | [] => [a]
  | b :: r => if a ≤ b then a :: b :: r else b :: insI a r
def sortI (l : List Int) : List Int := l.foldr insI []
theorem insI_perm (a : Int) : ∀ l, (insI a l).Perm (a :: l)
  | [] => .refl _
  | b :: r => by
    unfold insI
    split
    · exact .refl _
    · exact ((insI_perm a r).cons b).trans (.swap a b r)
theorem insI_sorted (a : Int) : ∀ {l : List Int}, l.Pairwise (· ≤ ·) → (insI a l).Pairwise (· ≤ ·)
  | [], _ => by simp [insI]
  | b :: r, h => by
    unfold insI
    have h' := List.pairwise_cons.1 h
    split
    · rename_i hab
      exact List.pairwise_cons.2 ⟨fun x hx => by
        rcases List.mem_cons.1 hx with rfl | hx
        · exact hab
        · have := h'.1 x hx; omega, h⟩
    · rename_i hab
      refine List.pairwise_cons.2 ⟨fun x hx => ?_, insI_sorted a h'.2⟩
      rcases List.mem_cons.1 ((insI_perm a r).mem_iff.1 hx) with rfl | hx
      · omega
      · exact h'.1 x hx
theorem sortI_perm : ∀ l, (sortI l).Perm l
  | [] => .refl _
  | a :: r => (insI_perm a _).trans ((sortI_perm r).cons a)
theorem sortI_sorted : ∀ l, (sortI l).Pairwise (· ≤ ·)
  | [] => .nil
  | a :: r => insI_sorted a (sortI_sorted r)
theorem sortI_eq {l l' : List Int} (h : l'.Perm l) : l'.mergeSort (fun x y => decide (x ≤ y)) = sortI l := by
  refine List.Perm.eq_of_pairwise (le := fun a b => a ≤ b) (fun a b _ _ h1 h2 => by omega) ?_ (sortI_sorted l) (((List.mergeSort_perm l' _).trans h).trans (sortI_perm l).symm)
  have := List.pairwise_mergeSort (le := fun (x y : Int) => decide (x ≤ y)) (fun a b c h1 h2 => by simp at *; omega) (fun a b => by simp; omega) l'
  exact this.imp fun h => by simpa using h
def inI (n : Int) : Bool := decide (-9223372036854775808 ≤ n) && decide (n ≤ 9223372036854775807)
def okM (es : List ME) (cl : Nat) : Bool := decide (es.map ME.key).Nodup && ((Nat.ble uM cl || (decide (es.map ME.born).Nodup && es.all (fun e => Nat.blt e.born cl))) && (es.all (fun e => inI e.key) && Nat.ble es.length 100000))
def anyR : Value → Option (DataW Unit × List MemPlace) := fun _ => some (.nil, [])
theorem keys_read {P : Program} {K : TypeId} (hK : P.underlying K = some (.int .i64)) {n : Int} (hn : inI n = true) : keyOf P K (.int .i64 n) = some (.int .i64 n) := by
  unfold inI at hn
  simp only [Bool.and_eq_true, decide_eq_true_eq] at hn
  have hw : (Lit.int .i64 n).wf = true := by
    simp [Lit.wf, IntKind.min, IntKind.max, IntKind.bits, IntKind.signed]; omega
  simp [keyOf, hK, mapKey, hw]
section
variable [Env]
variable {P : Program} {K : TypeId} {g : Gm} {c : Nat}
theorem MReps.keys : ∀ {es : List ME} {ms : List MapEntry}, MReps g c es ms → ms.map (·.key) = es.map (fun e => Value.int .i64 e.key) ∧ ms.map (·.born) = es.map ME.born
  | [], [], _ => ⟨rfl, rfl⟩
  | [], _ :: _, h => h.elim
  | _ :: _, [], h => h.elim
  | e :: r, m :: s, h => by
    obtain ⟨q1, q2⟩ := MReps.keys h.2
    exact ⟨by simp [h.1.1, q1], by simp [h.1.2.2, q2]⟩
theorem rg_keys (hK : P.underlying K = some (.int .i64)) : ∀ {es : List ME} {ms : List MapEntry}, MReps g c es ms → es.all (fun e => inI e.key) = true → ms.map (rg P K anyR) = es.map fun e => (Lit.int .i64 e.key, (DataW.nil : DataW Unit))
  | [], [], _, _ => rfl
  | [], _ :: _, h, _ => h.elim
  | _ :: _, [], h, _ => h.elim
  | e :: r, m :: s, h, ha => by
    simp only [List.all_cons, Bool.and_eq_true] at ha
    have := rg_keys hK h.2 ha.2
    simp only [List.map_cons, this]
    congr 1
    exact rg_of (by simp only [rd, h.1.1, keys_read hK ha.1]; rfl)
def dataOf (es : List ME) : DataW Unit := .map ((es.map fun e => (Lit.int .i64 e.key, (DataW.nil : DataW Unit))).foldr DataW.insert [])
theorem dataOf_keys (es : List ME) : (intKeys (dataOf es)).Perm (es.map ME.key) := by
  have h := (Go.WideShapes.sorted_perm (es.map fun e => (Lit.int .i64 e.key, (DataW.nil : DataW Unit)))).map fun p => intOf p.1
  refine h.trans ?_
  rw [List.map_map]
  exact .refl _
theorem dataOf_size (es : List ME) : Maps.size (dataOf es) = es.length := by
  have := (Go.WideShapes.sorted_perm (es.map fun e => (Lit.int .i64 e.key, (DataW.nil : DataW Unit)))).length_eq
  simpa [dataOf, Maps.size] using this
theorem okM_at {es : List ME} {cl cl0 : Nat} {ms : List MapEntry} (h : MapOk g c es cl cl0 ms) (ho : okM es cl = true) :
    ∃ es0, MReps g c es0 ms ∧ simM es es0 ∧ wfM es0 cl0 ∧ (∀ e ∈ es0, inI e.key = true) ∧ es0.length ≤ 100000 ∧ (es.map ME.key).Nodup ∧ (∀ e ∈ es, inI e.key = true) := by
  unfold okM at ho
  simp only [Bool.and_eq_true, Bool.or_eq_true, decide_eq_true_eq] at ho
  obtain ⟨h1, h2, h3, h4⟩ := ho
  have h4 : es.length ≤ 100000 := Nat.le_of_ble_eq_true h4
  have h3' : ∀ e ∈ es, inI e.key = true := List.all_eq_true.1 h3
  rcases h with ⟨hr, rfl, hlt⟩ | ⟨hU, es0, hr, hs, hw⟩
  · rcases h2 with h2 | ⟨h2, h5⟩
    · have := Nat.le_of_ble_eq_true h2; omega
    · refine ⟨es, hr, List.Perm.refl _, ⟨h1, h2, fun e he => Nat.le_of_ble_eq_true (List.all_eq_true.1 h5 e he)⟩, h3', h4, h1, h3'⟩
  · refine ⟨es0, hr, hs, hw, fun e he => ?_, by have := hs.length_eq; simp at this; omega, h1, h3'⟩
    have := hs.keys.mem_iff.1 (List.mem_map_of_mem he)
    obtain ⟨e', he', hk⟩ := List.mem_map.1 this
    rw [← hk]; exact h3' e' he'
theorem owns_of {w : World} {b cl : Nat} {es : List ME} {ms : List MapEntry} (hK : P.underlying K = some (.int .i64)) (hm : w.heap[b]? = some (.map ms.toArray cl)) (hr : MReps g c es ms) (hw : wfM es cl) (hin : ∀ e ∈ es, inI e.key = true) (h4 : es.length ≤ 100000) : w.ownsMap P K anyR b es.length (dataOf es) := by
  obtain ⟨h1, h2, h3⟩ := hw
  have h3' : ∀ e ∈ es, e.born < cl ∧ inI e.key = true := fun e he => ⟨h3 e he, hin e he⟩
  obtain ⟨q1, q2⟩ := hr.keys
  have hall : es.all (fun e => inI e.key) = true := List.all_eq_true.2 fun e he => (h3' e he).2
  have hrg := rg_keys (P := P) hK hr hall
  have hlen := hr.len
  refine ⟨ms.toArray, cl, hm, ⟨?_, ⟨fun x hx => ?_, ?_, ?_⟩, fun x hx => ?_⟩, by simp [hlen], ?_⟩
  · simp only [List.size_toArray, hlen]; have : (100000 : Nat) ≤ maxLen := by decide
    omega
  · have hx : x ∈ ms := hx
    have : x.born ∈ ms.map (·.born) := List.mem_map_of_mem hx
    rw [q2] at this
    obtain ⟨e, he, hb⟩ := List.mem_map.1 this
    rw [← hb]; exact (h3' e he).1
  · show (ms.map (·.born)).Nodup
    rw [q2]; exact h2
  · show (ms.map (·.key)).Nodup
    rw [q1]
    have : es.map (fun e => Value.int .i64 e.key) = (es.map ME.key).map (Value.int .i64) := by rw [List.map_map]; rfl
    rw [this]
    exact List.Pairwise.map _ (fun a b hab h => hab (by injection h)) h1
  · have hx : x ∈ ms := hx
    have : x.key ∈ ms.map (·.key) := List.mem_map_of_mem hx
    rw [q1] at this
    obtain ⟨e, he, hb⟩ := List.mem_map.1 this
    exact ⟨(.int .i64 e.key, .nil), by simp only [rd, ← hb, keys_read hK (h3' e he).2]; rfl⟩
  · show _ = DataW.map ((ms.map (rg P K anyR)).foldr DataW.insert [])
    rw [hrg]; rfl
end
end
end Go.FM
end

section
namespace Go.FM
noncomputable section
open Go.Maps Go.RowKit
def HeldSpec (P : Program) (f off T K : Nat) : Prop := ∀ (w : World) (kb ko b nn : Nat) (D0 : DataW Unit), w.cell? ⟨kb, ko + off, none⟩ = some (.map (some b)) → w.ownsMap P K anyR b nn D0 → Maps.size D0 ≤ maxLen → Maps.size D0 * 8 ≤ 140737488355328 →
  Calls P f #[.pointer (some ⟨kb, ko, none⟩)] w fun e w' => ∃ (v : Value) (ss : List Int), e = .returned v ∧ ss.Perm (intKeys D0) ∧
    w'.ownsRow w.heap.size T 1 v ss.length ((ss.mergeSort (fun x y => decide (x ≤ y))).map (Value.int .i64)) ∧ (v = .slice none 0 0 ↔ ss = []) ∧ Below w.heap.size w w'
def heldH (off D : Nat) : Hook := fun args h c => match args with
  | [x] => match x with
    | .ptr k o => match (HT.get D k h).body with
      | .cells cs => match lget (Nat.add o off) cs with
        | .mp m => match (HT.get D m h).body with
          | .map es cl => if okM es cl && Nat.blt (Nat.add o off) cs.length then match es with
              | [] => .ok .nils h c
              | e :: r => newO D 0 (.cells ((sortI ((e :: r).map ME.key)).map (HV.int .i64))) (.slc c 0 (e :: r).length 1 false) h c
            else .x 90
          | _ => .x 91
        | _ => .x 92
      | _ => .x 93
    | _ => .x 94
  | _ => .x 95
section
variable [Env]
variable {Pr : Program} {D : Nat} {g : Gm} {c : Nat} {w w' : World}
theorem lget_eq : ∀ (n : Nat) (l : List HV), n < l.length → l[n]? = some (lget n l)
  | 0, a :: r, _ => rfl
  | n + 1, a :: r, h => by
    have := lget_eq n r (by simpa using h)
    rw [List.getElem?_cons_succ]; exact this
  | _, [], h => by simp at h
theorem ints_rep {l : List Int} : CReps g c (l.map (HV.int .i64)) (l.map (Value.int .i64)) := by
  refine ⟨by simp, fun i x u hx hu => ?_⟩
  simp only [List.getElem?_map, Option.map_eq_some_iff] at hx hu
  obtain ⟨a, h1, rfl⟩ := hx
  obtain ⟨b, h2, rfl⟩ := hu
  rw [h1] at h2
  simp only [Option.some.injEq] at h2; subst h2
  exact ⟨rfl, rfl⟩
theorem heldH_ok {f off T K : Nat} (hb : Body Pr f) (hK : Pr.underlying K = some (.int .i64)) (hs : HeldSpec Pr f off T K) : HookOk Pr D f (heldH off D) := by
  intro args h c v h' c' he hv
  refine ⟨hb, ?_⟩
  unfold heldH at he
  split at he
  · split at he
    · rename_i k o
      split at he
      · rename_i cs hcs
        split at he
        · rename_i m hm
          split at he
          · rename_i es cl hes
            split at he
            · rename_i hok
              simp only [Bool.and_eq_true] at hok
              obtain ⟨hok, hlt⟩ := hok
              have hlt : o + off < cs.length := Nat.le_of_ble_eq_true hlt
              intro w g vs hi ha
              obtain ⟨x0, rfl⟩ : ∃ x0, vs = [x0] := List.length_eq_one_iff.1 ha.1
              obtain ⟨hk, rfl⟩ := ha.2 0 _ _ rfl rfl
              obtain ⟨us, q1, q2, q3, q4⟩ := (hi.body hk.1 hcs (by simp)).cells
              have hul : o + off < us.length := by rw [q2.1]; exact hlt
              have hu : us[o + off]? = some us[o + off] := List.getElem?_eq_getElem hul
              have hr := (q2.2 (o + off) _ _ (lget_eq _ _ hlt) hu).1
              have hm' : lget (o + off) cs = .mp m := hm
              rw [hm'] at hr
              obtain ⟨hmn, hmv⟩ := hr
              obtain ⟨ms, cl0, hms, hmo⟩ := map_at hi hmn.1 hes
              obtain ⟨es0, hmr, hsim, hwf, hin, hle0, hnd, hin'⟩ := okM_at hmo hok
              have hown := owns_of (P := Pr) hK hms hmr hwf hin hle0
              have hcell : w.cell? ⟨(g k).b, (g k).o + o + off, none⟩ = some (.map (some (g m).b)) := by
                have := q4 (o + off) _ hu
                rw [hmv] at this
                rw [← this, Nat.add_assoc]
              have hlen : es.length ≤ 100000 := by have := hsim.length_eq; simp at this; omega
              have hlen0 : es0.length = es.length := by have := hsim.length_eq; simpa using this
              have hc := hs w (g k).b ((g k).o + o) (g m).b es0.length (dataOf es0) hcell hown (by rw [dataOf_size]; exact Nat.le_trans hle0 (by decide)) (by rw [dataOf_size]; omega)
              refine hc.mono fun e w' ⟨v0, ss, he0, hp, hrow, hnil, hbel⟩ => ?_
              have hx := Below.ext hbel
              have hpk := (hp.trans (dataOf_keys es0)).trans hsim.keys
              have hsl : ss.length = es.length := by rw [hpk.length_eq]; simp
              cases es with
              | nil =>
                cases he
                have hss : ss = [] := List.eq_nil_of_length_eq_zero (by simpa using hsl)
                exact ⟨v0, g, he0, HOk.ext hi hx, Post.ext hi.inv hx, hnil.2 hss⟩
              | cons e0 r0 =>
                simp only at he
                rcases hrow.2 with ⟨_, h0⟩ | ⟨gb, cap, cur, hv0, hbase, hgb, r1, r2, r3, r4⟩
                · rw [hsl] at h0; simp at h0
                · have hso := sortI_eq hpk
                  rw [hso] at r4
                  have hcur : cur.toList.length = cap := by simpa using r3
                  have hn : ss.length = (e0 :: r0).length := hsl
                  have hb0 : BOk (g.new c ⟨gb, 0, (e0 :: r0).length, cap⟩) (c + 1) ⟨gb, 0, (e0 :: r0).length, cap⟩ (.cells ((sortI ((e0 :: r0).map ME.key)).map (HV.int .i64))) w' := by
                    refine .inl ⟨cur.toList, T, by simpa using hgb, hcur, ⟨rfl, by rw [← hn]; simpa using r1⟩, ?_⟩
                    have e1 : (At.mk gb 0 (e0 :: r0).length cap).row cur.toList = (sortI ((e0 :: r0).map ME.key)).map (Value.int .i64) := by
                      simp only [At.row, List.drop_zero]
                      rw [← r4, hn, Nat.mul_one]
                    rw [e1]
                    exact ints_rep
                  obtain ⟨z, w2, g2, s1, s2, s3, s4⟩ := new_eff (r := .ok v0 w') (z := v0) hi hx hbase hb0 he rfl (by
                    rw [hv0, hn]
                    refine ⟨nm_new g c _ (by rw [← hn]; simpa using r1), _, cap, rfl, by rw [← hn]; exact r1, r2, by decide, ?_, ?_, fun _ => ?_, (fun hc => by cases hc), fun _ => ?_⟩
                    · rw [gnew_self]; simp
                    · rw [gnew_self]; simp
                    · rw [gnew_self]; show (e0 :: r0).length ≤ 0 + cap * 1; rw [← hn]; omega
                    · simp [addrOf, gnew_self])
                  simp only [Result.ok.injEq] at s1
                  obtain ⟨rfl, rfl⟩ := s1
                  exact ⟨v0, g2, he0, s2, s3, s4⟩
            · cases he
          · cases he
        · cases he
      · cases he
    · cases he
  · cases he
end
end
end Go.FM
end

section
namespace Go.FM
noncomputable section
open Go.Maps Go.RowKit
def pinR (w : World) (off : Nat) : Value → Option (DataW Unit × List MemPlace) := fun v => match v with
  | .pointer (some ⟨b, o, none⟩) => if b < w.heap.size then match w.cell? ⟨b, o + off, none⟩ with
    | some (.int .i64 p) => some (.lit (.int .i64 p), [])
    | _ => none else none
  | _ => none
theorem pinR_some {w : World} {off : Nat} {v : Value} {y : DataW Unit × List MemPlace} (h : pinR w off v = some y) : ∃ b o p, v = .pointer (some ⟨b, o, none⟩) ∧ b < w.heap.size ∧ w.cell? ⟨b, o + off, none⟩ = some (.int .i64 p) ∧ y = (.lit (.int .i64 p), []) := by
  unfold pinR at h
  split at h
  · split at h
    · rename_i hb
      split at h
      · rename_i p hp
        simp only [Option.some.injEq] at h
        exact ⟨_, _, p, rfl, hb, hp, h.symm⟩
      · cases h
    · cases h
  · cases h
def posOf (D0 : DataW Unit) (x : Int) : Bool := match D0.atKey (.int .i64 x) .nil with
  | .lit (.int _ p) => decide (p > 0)
  | _ => false
def PinnedSpec (P : Program) (f off poff K : Nat) : Prop := ∀ (w : World) (kb ko b nn : Nat) (D0 : DataW Unit), w.cell? ⟨kb, ko + off, none⟩ = some (.map (some b)) → kb < w.heap.size → w.ownsMap P K (pinR w poff) b nn D0 → Maps.size D0 ≤ 100000 →
  Calls P f #[.pointer (some ⟨kb, ko, none⟩)] w fun e w' => e = .returned (.int .i64 (((intKeys D0).filter (posOf D0)).length : Int)) ∧ Below w.heap.size w w'
def encP (q : Int × Int) : Lit × DataW Unit := (.int .i64 q.1, .lit (.int .i64 q.2))
def posP (p : Lit × DataW Unit) : Bool := match p.2 with
  | .lit (.int _ n) => decide (n > 0)
  | _ => false
theorem same_int (a b : Int) : (Lit.int .i64 a).sameKey (.int .i64 b) = decide (a = b) := by
  by_cases h : a = b <;> simp [Lit.sameKey, h]
theorem find_mem : ∀ {es : List (Lit × DataW Unit)}, (∀ p ∈ es, ∃ q, p = encP q) → es.Pairwise (fun p q => p.1 ≠ q.1) → ∀ p ∈ es, es.find? (fun x => x.1.sameKey p.1) = some p
  | [], _, _, p, h => by simp at h
  | a :: r, he, hp, p, h => by
    have hp' := List.pairwise_cons.1 hp
    obtain ⟨qa, hqa⟩ := he a (by simp)
    obtain ⟨qp, hqp⟩ := he p h
    rcases List.mem_cons.1 h with rfl | h'
    · have : (fun x : Lit × DataW Unit => x.1.sameKey p.1) p = true := by rw [hqa]; simp [encP, same_int]
      exact List.find?_cons_of_pos this
    · have hne := hp'.1 p h'
      have : ¬ (fun x : Lit × DataW Unit => x.1.sameKey p.1) a = true := by
        rw [hqa, hqp] at hne ⊢
        simp only [encP, same_int, decide_eq_true_eq] at hne ⊢
        exact fun e => hne (by rw [e])
      have e2 : (a :: r).find? (fun x => x.1.sameKey p.1) = r.find? (fun x => x.1.sameKey p.1) := List.find?_cons_of_neg this
      rw [e2]
      exact find_mem (fun x hx => he x (by simp [hx])) hp'.2 p h'
theorem cnt_eq {es : List (Lit × DataW Unit)} (he : ∀ p ∈ es, ∃ q, p = encP q) (hp : es.Pairwise (fun p q => p.1 ≠ q.1)) : ((intKeys (.map es)).filter (posOf (.map es))).length = (es.filter posP).length := by
  have e1 : intKeys (.map es) = es.map fun p => intOf p.1 := rfl
  rw [e1, List.filter_map, List.length_map]
  congr 1
  refine List.filter_congr fun p hm => ?_
  obtain ⟨q, rfl⟩ := he p hm
  have hf := find_mem he hp _ hm
  show posOf (.map es) q.1 = posP (encP q)
  unfold posOf DataW.atKey
  simp only [encP] at hf ⊢
  rw [hf]
  rfl
def pinOf (D poff : Nat) (h : HT) (v : HV) : Option Int := match v with
  | .ptr k o => match (HT.get D k h).body with
    | .cells cs => if Nat.blt (Nat.add o poff) cs.length then match lget (Nat.add o poff) cs with
      | .int ik p => if ikEq ik .i64 then some p else none
      | _ => none else none
    | _ => none
  | _ => none
def pinsM (D poff : Nat) (h : HT) : List ME → Option (List (Int × Int))
  | [] => some []
  | e :: r => match pinOf D poff h e.val with
    | some p => match pinsM D poff h r with
      | some l => some ((e.key, p) :: l)
      | none => none
    | none => none
def cntP (l : List (Int × Int)) : Nat := (l.filter fun q => decide (q.2 > 0)).length
def pinnedH (off poff D : Nat) : Hook := fun args h c => match args with
  | [x] => match x with
    | .ptr k o => match (HT.get D k h).body with
      | .cells cs => match lget (Nat.add o off) cs with
        | .mp m => match (HT.get D m h).body with
          | .map es cl => if okM es cl && Nat.blt (Nat.add o off) cs.length then match pinsM D poff h es with
              | some l => .ok (.int .i64 (.ofNat (cntP l))) h c
              | none => .x 96
            else .x 90
          | _ => .x 91
        | _ => .x 92
      | _ => .x 93
    | _ => .x 94
  | _ => .x 95
section
variable [Env]
variable {Pr : Program} {D K : Nat} {g : Gm} {c : Nat} {w : World} {h : HT}
theorem pinOf_ok (hi : HOk D g h c w) {poff : Nat} {x : HV} {v : Value} {p : Int} (hx : VRep g c x v) (hp : pinOf D poff h x = some p) : pinR w poff v = some (.lit (.int .i64 p), []) := by
  unfold pinOf at hp
  split at hp
  · rename_i k o
    split at hp
    · rename_i cs hcs
      split at hp
      · rename_i hlt
        have hlt : o + poff < cs.length := Nat.le_of_ble_eq_true hlt
        split at hp
        · rename_i ik q hq
          split at hp
          · rename_i hik
            have := ikEq_eq hik; subst this
            simp only [Option.some.injEq] at hp; subst hp
            have hx : CRep g c (.ptr k o) v := hx
            obtain ⟨hk, rfl⟩ := hx
            have hbk := hi.body hk.1 hcs (by simp)
            obtain ⟨us, q1, q2, q3, q4⟩ := hbk.cells
            have hul : o + poff < us.length := by rw [q2.1]; exact hlt
            have hu : us[o + poff]? = some us[o + poff] := List.getElem?_eq_getElem hul
            have hr := (q2.2 (o + poff) _ _ (lget_eq _ _ hlt) hu).1
            have hq' : lget (o + poff) cs = .int .i64 q := hq
            rw [hq'] at hr
            have hr : us[o + poff] = .int .i64 q := hr
            have hcell : w.cell? ⟨(g k).b, (g k).o + o + poff, none⟩ = some (.int .i64 q) := by
              have := q4 (o + poff) _ hu
              rw [hr] at this
              rw [← this, Nat.add_assoc]
            have hb := hbk.lt
            simp only [pinR, addrOf, hb, if_true, hcell]
          · cases hp
        · cases hp
      · cases hp
    · cases hp
  · cases hp
theorem pins_read (hi : HOk D g h c w) (hK : Pr.underlying K = some (.int .i64)) {poff : Nat} : ∀ {es : List ME} {ms : List MapEntry} {l : List (Int × Int)}, MReps g c es ms → es.all (fun e => inI e.key) = true → pinsM D poff h es = some l →
    ms.map (Go.WideElems.rg Pr K (pinR w poff)) = l.map encP ∧ l.map (·.1) = es.map ME.key ∧ ∀ x ∈ ms, ∃ y, Go.WideElems.rd Pr K (pinR w poff) x = some y
  | [], [], l, _, _, hl => by cases hl; exact ⟨rfl, rfl, fun x hx => by simp at hx⟩
  | [], _ :: _, _, h, _, _ => h.elim
  | _ :: _, [], _, h, _, _ => h.elim
  | e :: r, m :: s, l, hm, ha, hl => by
    simp only [List.all_cons, Bool.and_eq_true] at ha
    unfold pinsM at hl
    split at hl
    · rename_i p hp
      split at hl
      · rename_i l' hl'
        simp only [Option.some.injEq] at hl; subst hl
        obtain ⟨q1, q2, q3⟩ := pins_read hi hK hm.2 ha.2 hl'
        have hrd : Go.WideElems.rd Pr K (pinR w poff) m = some (encP (e.key, p)) := by
          simp only [Go.WideElems.rd, hm.1.1, keys_read hK ha.1, pinOf_ok hi hm.1.2.1 hp]; rfl
        refine ⟨by simp only [List.map_cons, q1]; congr 1; exact Go.WideElems.rg_of hrd, by simp [q2], fun x hx => ?_⟩
        rcases List.mem_cons.1 hx with rfl | hx
        · exact ⟨_, hrd⟩
        · exact q3 x hx
      · cases hl
    · cases hl
def pinsK (D poff : Nat) (h : HT) : List (Int × HV) → Option (List (Int × Int))
  | [] => some []
  | e :: r => match pinOf D poff h e.2 with
    | some p => match pinsK D poff h r with
      | some l => some ((e.1, p) :: l)
      | none => none
    | none => none
theorem pins_kv (poff : Nat) : ∀ es : List ME, pinsM D poff h es = pinsK D poff h (es.map kvM)
  | [] => rfl
  | e :: r => by simp only [pinsM, List.map_cons, pinsK, pins_kv poff r, kvM]
theorem pinsK_cons {poff : Nat} {e : Int × HV} {r : List (Int × HV)} {l : List (Int × Int)} (hl : pinsK D poff h (e :: r) = some l) : ∃ p l', pinOf D poff h e.2 = some p ∧ pinsK D poff h r = some l' ∧ l = (e.1, p) :: l' := by
  unfold pinsK at hl
  split at hl
  · rename_i p hp
    split at hl
    · rename_i l' hl'
      simp only [Option.some.injEq] at hl
      exact ⟨p, l', hp, hl', hl.symm⟩
    · cases hl
  · cases hl
theorem pinsK_mk {poff : Nat} {e : Int × HV} {r : List (Int × HV)} {p : Int} {l' : List (Int × Int)} (hp : pinOf D poff h e.2 = some p) (hl : pinsK D poff h r = some l') : pinsK D poff h (e :: r) = some ((e.1, p) :: l') := by
  simp only [pinsK, hp, hl]
theorem pinsK_perm {poff : Nat} {A B : List (Int × HV)} (hp : A.Perm B) : ∀ {l}, pinsK D poff h A = some l → ∃ l', pinsK D poff h B = some l' ∧ l'.Perm l := by
  induction hp with
  | nil => intro l hl; exact ⟨l, hl, .refl _⟩
  | cons x _ ih =>
    intro l hl
    obtain ⟨p, l1, h1, h2, rfl⟩ := pinsK_cons hl
    obtain ⟨l2, q1, q2⟩ := ih h2
    exact ⟨_, pinsK_mk h1 q1, q2.cons _⟩
  | swap x y _ =>
    intro l hl
    obtain ⟨p, l1, h1, h2, rfl⟩ := pinsK_cons hl
    obtain ⟨p2, l2, h3, h4, rfl⟩ := pinsK_cons h2
    exact ⟨_, pinsK_mk h3 (pinsK_mk h1 h4), .swap _ _ _⟩
  | trans _ _ ih1 ih2 =>
    intro l hl
    obtain ⟨l1, q1, q2⟩ := ih1 hl
    obtain ⟨l2, q3, q4⟩ := ih2 q1
    exact ⟨l2, q3, q4.trans q2⟩
theorem pinnedH_ok {f off poff : Nat} (hb : Body Pr f) (hK : Pr.underlying K = some (.int .i64)) (hs : PinnedSpec Pr f off poff K) : HookOk Pr D f (pinnedH off poff D) := by
  intro args h c v h' c' he hv
  refine ⟨hb, ?_⟩
  unfold pinnedH at he
  split at he
  · split at he
    · rename_i k o
      split at he
      · rename_i cs hcs
        split at he
        · rename_i m hm
          split at he
          · rename_i es cl hes
            split at he
            · rename_i hok
              simp only [Bool.and_eq_true] at hok
              obtain ⟨hok, hlt⟩ := hok
              have hlt : o + off < cs.length := Nat.le_of_ble_eq_true hlt
              split at he
              · rename_i l hl
                simp only [CR.ok.injEq] at he
                obtain ⟨rfl, rfl, rfl⟩ := he
                refine CallT.still (v0 := .int .i64 ((cntP l : Nat) : Int)) (fun g => rfl) fun w g vs hi ha => ?_
                obtain ⟨x0, rfl⟩ : ∃ x0, vs = [x0] := List.length_eq_one_iff.1 ha.1
                obtain ⟨hk, rfl⟩ := ha.2 0 _ _ rfl rfl
                have hbk := hi.body hk.1 hcs (by simp)
                obtain ⟨us, q1, q2, q3, q4⟩ := hbk.cells
                have hul : o + off < us.length := by rw [q2.1]; exact hlt
                have hu : us[o + off]? = some us[o + off] := List.getElem?_eq_getElem hul
                have hr := (q2.2 (o + off) _ _ (lget_eq _ _ hlt) hu).1
                have hm' : lget (o + off) cs = .mp m := hm
                rw [hm'] at hr
                obtain ⟨hmn, hmv⟩ := hr
                obtain ⟨ms, cl0, hms, hmo⟩ := map_at hi hmn.1 hes
                obtain ⟨es0, hmr, hsim, hwf, hin, hle0, hnd0, hin'⟩ := okM_at hmo hok
                obtain ⟨l0, hl0, hpl⟩ := pinsK_perm (D := D) (h := _) (poff := poff) hsim.symm (by rw [← pins_kv]; exact hl)
                rw [← pins_kv] at hl0
                have hcell : w.cell? ⟨(g k).b, (g k).o + o + off, none⟩ = some (.map (some (g m).b)) := by
                  have := q4 (o + off) _ hu
                  rw [hmv] at this
                  rw [← this, Nat.add_assoc]
                have hown0 := owns_of (P := Pr) hK hms hmr hwf hin hle0
                have k4 := hle0
                have hall : es0.all (fun e => inI e.key) = true := List.all_eq_true.2 hin
                obtain ⟨p1, p2, p3⟩ := pins_read (Pr := Pr) hi hK hmr hall hl0
                have hown : w.ownsMap Pr K (pinR w poff) (g m).b es0.length (.map ((l0.map encP).foldr DataW.insert [])) := by
                  obtain ⟨es', cl', hb', hF, hsz, _⟩ := hown0
                  rw [hms] at hb'
                  simp only [Option.some.injEq, Obj.map.injEq] at hb'
                  obtain ⟨rfl, rfl⟩ := hb'
                  exact ⟨ms.toArray, cl0, hms, ⟨hF.size, hF.stamped, fun x hx => p3 x hx⟩, hsz, by show _ = DataW.map ((ms.map (Go.WideElems.rg Pr K (pinR w poff))).foldr DataW.insert []); rw [p1]⟩
                have hperm := Go.WideShapes.sorted_perm (l0.map encP)
                have hlen : l0.length = es0.length := by have := congrArg List.length p2; simpa using this
                have hc := hs w (g k).b ((g k).o + o) (g m).b es0.length _ hcell hbk.lt hown (by
                  have := hperm.length_eq
                  simp only [List.length_map] at this
                  simp only [Maps.size]; omega)
                refine hc.mono fun e w' ⟨he0, hbel⟩ => ⟨?_, hbel⟩
                rw [he0]
                have hcnt : cntP l = cntP l0 := (hpl.symm.filter _).length_eq
                rw [hcnt]
                congr 2
                have hnd : ((l0.map encP).foldr DataW.insert []).Pairwise (fun p q => p.1 ≠ q.1) := by
                  have h0 : ((l0.map encP).map (·.1)).Nodup := by
                    have : (l0.map encP).map (·.1) = (l0.map (·.1)).map (Lit.int .i64) := by simp [encP, Function.comp_def]
                    rw [this, p2]
                    exact List.Pairwise.map _ (fun a b hab h => hab (by injection h)) hwf.1
                  have h1 : (((l0.map encP).foldr DataW.insert []).map (·.1)).Nodup := ((hperm.map (·.1)).nodup_iff).2 h0
                  exact List.pairwise_map.1 h1
                rw [cnt_eq (fun p hp => by
                  obtain ⟨q, _, rfl⟩ := List.mem_map.1 (hperm.mem_iff.1 hp)
                  exact ⟨q, rfl⟩) hnd, (hperm.filter _).length_eq, List.filter_map, List.length_map]
                rfl
              · cases he
            · cases he
          · cases he
        · cases he
      · cases he
    · cases he
  · cases he
end
end
end Go.FM
end
