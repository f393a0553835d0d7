/-
  The typed machine: sums, conversions, slices.
-/
import Derived.Test.YtmfegciehdjicaaAbtOp1
set_option linter.unusedVariables false
set_option linter.unusedSimpArgs false
namespace Go.AbsM

section
variable {P : Program} {R : List Store} {s : TSt}

theorem intT_ok {op : BinOp} {k : IntKind} {a b : Int} {K : AV → Prop} (h : intT op k a b K) : ∃ v : AV, intBin op k a b = some v ∧ v.one = v ∧ K v := by
  unfold intT at h
  split at h <;> first
    | exact ⟨_, rfl, rfl, h⟩
    | (rcases brc_cases h with ⟨_, h⟩ | ⟨hb, h⟩
       · exact h.elim
       · refine ⟨_, ?_, rfl, h⟩
         have hb : b ≠ 0 := by
           intro e; subst e; simp [W.ieq] at hb
         simp only [intBin, if_neg hb]; rfl)
    | exact h.elim

theorem strT_ok {op : BinOp} {a b : List UInt8} {K : AV → Prop} (h : strT op a b K) : ∃ v : AV, strBin op a b = some v ∧ v.one = v ∧ K v := by
  unfold strT at h
  split at h <;> first
    | exact ⟨_, rfl, rfl, h⟩
    | (have h : grd (W.nle (W.nadd (W.len a) (W.len b)) 9223372036854775807) (K (.str (W.app a b))) := h
       obtain ⟨hg, h⟩ := grd_iff.1 h
       refine ⟨_, ?_, rfl, h⟩
       have hg : a.length + b.length ≤ 9223372036854775807 := of_decide_eq_true hg
       simp only [strBin]
       rw [if_pos hg]; rfl)
    | exact h.elim

theorem floatBin_one {op : BinOp} {k : FloatKind} {a b : Nat} {v : AV} (h : floatBin op k a b = some v) : v.one = v := by
  unfold floatBin at h
  simp only at h
  split at h <;> first
    | (simp only [Option.map_eq_some_iff] at h; obtain ⟨r, _, rfl⟩ := h; rfl)
    | (simp only [Option.some.injEq] at h; subst h; rfl)
    | cases h
theorem complexBin_one {op : BinOp} {k : FloatKind} {a b c d : Nat} {v : AV} (h : complexBin op k a b c d = some v) : v.one = v := by
  unfold complexBin at h
  split at h
  · split at h
    · simp only [Option.some.injEq] at h; subst h; rfl
    · cases h
  · split at h
    · simp only [Option.some.injEq] at h; subst h; rfl
    · cases h
  · split at h
    · split at h
      · split at h
        · simp only [Option.some.injEq] at h; subst h; rfl
        · cases h
      · cases h
    · cases h
  · simp only [Option.some.injEq] at h; subst h; rfl
  · simp only [Option.some.injEq] at h; subst h; rfl
  · cases h

theorem binK_ok {op : BinOp} {t : TypeId} {x y : AV} {K : AV → Prop} (s : St) (h : binK P op t x y K) : ∃ v : AV, binA P s op t x.one y.one = some v ∧ v.one = v ∧ K v := by
  unfold binK at h
  split at h
  · split at h
    · rename_i k' b _ k a
      split at h
      · obtain ⟨hb, h⟩ := grd_iff.1 h
        refine ⟨_, ?_, rfl, h⟩
        simp only [AV.one, binA, shiftA]
        rw [if_neg (by simpa [W.ile] using hb)]; rfl
      · obtain ⟨hb, h⟩ := grd_iff.1 h
        refine ⟨_, ?_, rfl, h⟩
        simp only [AV.one, binA, shiftA]
        rw [if_neg (by simpa [W.ile] using hb)]; rfl
      · split at h
        · rename_i n1 n2 hk
          obtain ⟨v, h1, h2, h⟩ := intT_ok h
          refine ⟨v, ?_, h2, h⟩
          subst hk
          simp only [AV.one, binA, if_true]
          cases op <;> first | exact h1 | exact absurd rfl n1 | exact absurd rfl n2
        · exact h.elim
    · exact h.elim
  · split at h
    · split at h
      · rename_i hu
        split at h
        · exact ⟨_, by simp only [AV.one, binA, hu]; rfl, rfl, h⟩
        · exact ⟨_, by simp only [AV.one, binA, hu]; rfl, rfl, h⟩
        · exact h.elim
      · exact h.elim
    · exact h.elim
  · split at h
    · obtain ⟨v, h1, h2, h⟩ := strT_ok h
      exact ⟨v, by simp only [AV.one, binA]; exact h1, h2, h⟩
    · exact h.elim
  · split at h
    · split at h
      · rename_i hk
        subst hk
        obtain ⟨v, h1, h⟩ := need_some h
        exact ⟨v, by simp only [AV.one, binA, if_true]; exact h1, floatBin_one h1, h⟩
      · exact h.elim
    · exact h.elim
  · split at h
    · split at h
      · rename_i hk
        subst hk
        obtain ⟨v, h1, h⟩ := need_some h
        exact ⟨v, by simp only [AV.one, binA, if_true]; exact h1, complexBin_one h1, h⟩
      · exact h.elim
    · exact h.elim
  · exact h.elim

theorem unK_ok {op : UnOp} {x : AV} {K : AV → Prop} (h : unK op x K) : ∃ v : AV, unA op x.one = some v ∧ v.one = v ∧ K v := by
  unfold unK at h
  split at h
  · split at h <;> first | exact ⟨_, rfl, rfl, h⟩ | exact h.elim
  · split at h <;> first | exact ⟨_, rfl, rfl, h⟩ | exact h.elim
  · split at h <;> first | exact ⟨_, rfl, rfl, h⟩ | exact h.elim
  · split at h <;> first | exact ⟨_, rfl, rfl, h⟩ | exact h.elim
  · exact h.elim

theorem avsOfBytes_u8 (l : List UInt8) : avsOfBytes l = (W.u8s l).map (VT.int .u8).emb := by
  
  induction l with
  | nil => rfl
  | cons b r ih => exact congrArg (AV.int .u8 b.toNat :: ·) ih
theorem bytesOf_u8 (xs : List Int) : bytesOfAVs (xs.map (VT.int .u8).emb) = some (W.b8s xs) := by
  induction xs with
  | nil => rfl
  | cons x r ih =>
    show bytesOfAVs (.x (.int .u8 x) :: r.map (VT.int .u8).emb) = _
    simp only [bytesOfAVs, ih]; rfl

theorem srcT_ok {e : TypeId} {t : VT} {x : T1} {K : List t.den → Prop} (h : srcT P s e t x K) : ∃ xs, (s.emb R).src P e (x.emb s.st) = some (xs.map t.emb) ∧ K xs := by
  unfold srcT at h
  split at h
  · exact ⟨[], rfl, h⟩
  · exact ⟨[], rfl, h⟩
  · split at h
    · rename_i l ht
      split at h
      · rename_i hc
        subst ht
        refine ⟨_, ?_, h⟩
        simp only [T1.emb, TC.emb, AV.one, St.src, hc, if_true, avsOfBytes_u8]
      · exact h.elim
    · exact h.elim
  · split at h
    · rename_i x he
      split at h
      · rename_i ht
        subst ht; subst he
        refine ⟨_, ?_, h⟩
        cases x <;> simp only [T1.emb, TC.emb, nlAV, St.src, NL.list, List.map_nil, if_true]
      · exact h.elim
    · exact h.elim
  · rename_i k
    split at h
    · rename_i f e' t' xs hl
      split at h
      · rename_i he
        split at h
        · rename_i ht
          subst ht; subst he
          refine ⟨_, ?_, h⟩
          have hsh : shapeT s.st k = some (e', xs.length) := by simp only [shapeT, hl]
          simp only [T1.emb, TC.emb, hsh, St.src, if_true, St.elems, getOb_emb, hl, Option.map_some, TOb.emb, List.length_map, List.drop_zero]
          rw [List.take_of_length_le (by simp)]
        · exact h.elim
      · exact h.elim
    · exact h.elim
  · rename_i k e' lo n tot
    split at h
    · rename_i f e2 t' xs hl
      split at h
      · rename_i he
        split at h
        · rename_i ht
          obtain ⟨hg, h⟩ := grd_iff.1 h
          have hg : xs.length = tot := of_decide_eq_true hg
          subst ht; subst he
          refine ⟨_, ?_, h⟩
          simp only [T1.emb, TC.emb, AV.one, St.src, if_true, St.elems, getOb_emb, hl, Option.map_some, TOb.emb, List.length_map, hg, W.take, W.drop, List.map_take, List.map_drop]
        · exact h.elim
      · exact h.elim
    · exact h.elim
  · exact h.elim

theorem convA_float {src dst : TypeId} {k : FloatKind} {b : Nat} {v : AV} (s : St) (h : convA P ⟨[], []⟩ src dst (.x (.float k b)) = some v) : convA P s src dst (.x (.float k b)) = some v ∧ v.one = v := by
  refine ⟨h, ?_⟩
  unfold convA at h
  simp only at h
  split at h
  · split at h
    · split at h
      · simp only [Option.some.injEq] at h; subst h; rfl
      · cases h
    · cases h
  · split at h
    · simp only [Option.some.injEq] at h; subst h; rfl
    · cases h
  · cases h

theorem convA_slice {src dst e : TypeId} {a : AV} (s : St) (h1 : ∀ v, a ≠ .x v) (h2 : ∀ l, a ≠ .str l) (hs : P.underlying src = some (.slice e)) (hd : P.underlying dst = some .string) (he : P.underlying e = some (.int .u8)) {xs : List Int} (hx : s.src P e a = some (xs.map (VT.int .u8).emb)) :
    convA P s src dst a = some (.str (W.b8s xs)) := by
  cases a <;> first | exact absurd rfl (h1 _) | exact absurd rfl (h2 _) | simp only [convA, hs, hd, he, hx, bytesOf_u8, Option.map_some]

theorem convK_ok {src dst : TypeId} {x : T1} {K : TV → Prop} (h : convK P s src dst x K) : ∃ v : TV, convA P (s.emb R) src dst (x.emb s.st) = some (v.emb s.st) ∧ K v := by
  unfold convK at h
  split at h
  · split at h
    · rename_i h1 h2
      exact ⟨_, by simp only [T1.emb, TC.emb, AV.one, convA, h1, h2]; rfl, h⟩
    · rename_i h1 h2
      exact ⟨_, by simp only [T1.emb, TC.emb, AV.one, convA, h1, h2]; rfl, h⟩
    · exact h.elim
  · obtain ⟨v, h1, h⟩ := need_some h
    obtain ⟨h2, h3⟩ := convA_float (s.emb R) h1
    refine ⟨_, ?_, h⟩
    show convA P (s.emb R) src dst _ = some v.one
    rw [h3]; exact h2
  · split at h
    · rename_i h1 h2
      exact ⟨_, by simp only [T1.emb, TC.emb, AV.one, convA, h1, h2]; rfl, h⟩
    · exact h.elim
  · rename_i n1 n2 n3
    split at h
    · rename_i e hs hd
      split at h
      · rename_i he
        obtain ⟨xs, hx, h⟩ := srcT_ok (R := R) h
        refine ⟨.a (.str (W.b8s xs)), convA_slice (s.emb R) ?_ ?_ hs hd he hx, h⟩
        · intro v hv
          rw [hv] at hx
          simp [St.src] at hx
        · intro l hl
          cases x with
          | c c =>
            cases c with
            | a y =>
              have hl : y.one = .str l := hl
              cases y <;> simp only [AV.one] at hl <;> first | exact (n3 _ rfl).elim | cases hl
            | sl e t y => cases y <;> cases hl
            | h j => simp only [T1.emb, TC.emb] at hl; split at hl <;> cases hl
            | eh j m off => simp only [T1.emb, TC.emb] at hl; split at hl <;> cases hl
          | agg cs => cases hl
          | own e t xs => cases hl
      · exact h.elim
    · exact h.elim

theorem convertT_ok {d : Option Nat} {src dst : TypeId} {x : T1} {K : TSt → Prop} (h : convertT P s d src dst x K) : ∃ s1, convertA P (s.emb R) d src dst (x.emb s.st) = some (s1.emb R) ∧ K s1 := by
  unfold convertT at h
  split at h
  · rename_i e hs hd
    split at h
    · rename_i l he
      split at h
      · rename_i hc
        obtain ⟨hg, h⟩ := grd_iff.1 h
        refine ⟨_, ?_, h⟩
        have hnone : convA P (s.emb R) src dst (.str l) = none := by simp [convA, hs, hd]
        simp only [T1.emb, TC.emb, AV.one, convertA, hnone, hs, hd, he]
        rw [if_pos ⟨of_decide_eq_true hg, hc⟩, emb_put, avsOfBytes_u8]; rfl
      · exact h.elim
    · exact h.elim
  · obtain ⟨v, h1, h⟩ := convK_ok (R := R) h
    exact ⟨_, by simp only [convertA, h1, emb_put], h⟩

theorem boundK_ok {dflt most : Nat} {o : Option Operand} {K : Nat → Prop} (h : boundK s dflt most o K) : ∃ n, boundA (s.emb R) dflt most o = some n ∧ K n := by
  unfold boundK at h
  split at h
  · exact ⟨_, rfl, h⟩
  · obtain ⟨k, i, he, h⟩ := evalI_ok (R := R) h
    obtain ⟨h1, h⟩ := grd_iff.1 h
    obtain ⟨h2, h⟩ := grd_iff.1 h
    refine ⟨_, ?_, h⟩
    simp only [boundA, he]
    rw [if_pos ⟨of_decide_eq_true h1, of_decide_eq_true h2⟩]; rfl

theorem cut_emb {α : Type} (e : TypeId) (f : α → AV) (h b : Nat) (x : NL α) : nlAV e f (x.cut h b) = match x with | .nil => .nils | .cap0 => .cap0 | .mk l => .sl e (((l.map f).take h).drop b) := by
  cases x with
  | mk l => simp [NL.cut, nlAV, W.take, W.drop, List.map_take, List.map_drop]
  | _ => rfl

theorem sliceT_ok {t : TypeId} {x : T1} {lo hi : Option Operand} {K : TV → Prop} (h : sliceT P s t x lo hi K) : ∃ v : TV, sliceA P (s.emb R) t (x.emb s.st) lo hi none = some (v.emb s.st) ∧ K v := by
  unfold sliceT at h
  split at h
  · rename_i hu
    split at h
    · obtain ⟨a, ha, h⟩ := boundK_ok (R := R) h
      obtain ⟨b, hb, h⟩ := boundK_ok (R := R) h
      have ha : boundA (s.emb R) (List.length _) (List.length _) hi = some a := ha
      exact ⟨_, by simp only [T1.emb, TC.emb, AV.one, sliceA, hu, ha, hb]; rfl, h⟩
    · exact h.elim
  · rename_i e hu
    split at h
    · exact h.elim
    · rename_i n hn
      split at h
      · rename_i e' t' x
        split at h
        · rename_i he
          subst he
          obtain ⟨a, ha, h⟩ := boundK_ok (R := R) h
          obtain ⟨b, hb, h⟩ := boundK_ok (R := R) h
          refine ⟨_, ?_, h⟩
          cases x with
          | nil => have ha : boundA (s.emb R) 0 0 hi = some a := ha; simp only [T1.emb, TC.emb, nlAV, sliceA, hu, hn, ha, hb]; rfl
          | cap0 => have ha : boundA (s.emb R) 0 0 hi = some a := ha; simp only [T1.emb, TC.emb, nlAV, sliceA, hu, hn, ha, hb]; rfl
          | mk l =>
            have ha : boundA (s.emb R) l.length l.length hi = some a := ha
            simp only [T1.emb, TC.emb, nlAV, sliceA, hu, hn, List.length_map, ha, hb, if_true]
            simp [TV.emb, T1.emb, TC.emb, cut_emb]
        · exact h.elim
      · obtain ⟨a, ha, h⟩ := boundK_ok (R := R) h
        obtain ⟨b, hb, h⟩ := boundK_ok (R := R) h
        exact ⟨_, by simp only [T1.emb, TC.emb, AV.one, sliceA, hu, hn, ha, hb]; rfl, h⟩
      · obtain ⟨a, ha, h⟩ := boundK_ok (R := R) h
        obtain ⟨b, hb, h⟩ := boundK_ok (R := R) h
        exact ⟨_, by simp only [T1.emb, TC.emb, AV.one, sliceA, hu, hn, ha, hb]; rfl, h⟩
      · rename_i k
        split at h
        · rename_i f e' t' xs hl
          split at h
          · rename_i he
            subst he
            obtain ⟨a, ha, h⟩ := boundK_ok (R := R) h
            obtain ⟨b, hb, h⟩ := boundK_ok (R := R) h
            have ha : boundA (s.emb R) xs.length xs.length hi = some a := ha
            have hsh : shapeT s.st k = some (e', xs.length) := by simp only [shapeT, hl]
            refine ⟨_, ?_, h⟩
            simp only [T1.emb, TC.emb, hsh, sliceA, hu, hn, if_true, St.elems, getOb_emb, hl, Option.map_some, TOb.emb, List.length_map, ha, hb, Nat.zero_add]; rfl
          · exact h.elim
        · exact h.elim
      · rename_i k e' lo' m tot
        split at h
        · rename_i f e2 t' xs hl
          split at h
          · rename_i he
            subst he
            obtain ⟨hg, h⟩ := grd_iff.1 h
            have hg : xs.length = tot := of_decide_eq_true hg
            obtain ⟨a, ha, h⟩ := boundK_ok (R := R) h
            obtain ⟨b, hb, h⟩ := boundK_ok (R := R) h
            refine ⟨_, ?_, h⟩
            simp only [T1.emb, TC.emb, AV.one, sliceA, hu, hn, if_true, St.elems, getOb_emb, hl, Option.map_some, TOb.emb, List.length_map, hg, ha, hb]; rfl
          · exact h.elim
        · exact h.elim
      · exact h.elim
  · exact h.elim

theorem lenT_ok {t : TypeId} {x : T1} {K : Nat → Prop} (h : lenT P s t x K) : ∃ n, lenOfA P (s.emb R) t (x.emb s.st) = some n ∧ K n := by
  unfold lenT at h
  split at h
  · rename_i hu
    split at h
    · exact ⟨_, by simp only [T1.emb, TC.emb, AV.one, lenOfA, hu]; rfl, h⟩
    · exact h.elim
  · rename_i hu
    split at h
    · exact ⟨_, by simp only [T1.emb, TC.emb, AV.one, lenOfA, hu], h⟩
    · exact ⟨_, by simp only [T1.emb, TC.emb, AV.one, lenOfA, hu], h⟩
    · rename_i x
      refine ⟨_, ?_, h⟩
      cases x <;> simp only [T1.emb, TC.emb, nlAV, lenOfA, hu, List.length_map] <;> rfl
    · rename_i k
      split at h
      · rename_i f e' t' xs hl
        have hsh : shapeT s.st k = some (e', xs.length) := by simp only [shapeT, hl]
        exact ⟨_, by simp only [T1.emb, TC.emb, hsh, lenOfA, hu, St.elems, getOb_emb, hl, Option.map_some, TOb.emb, List.length_map, if_true]; rfl, h⟩
      · exact h.elim
    · rename_i k e lo n tot
      split at h
      · rename_i f e' t' xs hl
        obtain ⟨hg, h⟩ := grd_iff.1 h
        have hg : xs.length = tot := of_decide_eq_true hg
        exact ⟨_, by simp only [T1.emb, TC.emb, AV.one, lenOfA, hu, St.elems, getOb_emb, hl, Option.map_some, TOb.emb, List.length_map, hg, if_true], h⟩
      · exact h.elim
    · exact h.elim
  · rename_i hu
    exact ⟨_, by simp only [lenOfA, hu], h⟩
  · exact h.elim
end
end Go.AbsM
