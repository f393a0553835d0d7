/-
  Texts of a proof over the translated program: N4DB.
-/
import Derived.Test.YtijahjkcbphmcaaN4DA
set_option linter.unusedVariables false
namespace Sp
open Go Go.AbsM
theorem walk_len : ∀ (a : Int) (l : List Int), (walk a l).length = l.length
  | _, [] => rfl
  | a, x :: r => by simp only [walk, List.length_cons, walk_len _ r]
theorem walk_drop {l : List Int} {i : Nat} (a : Int) (h : i < l.length) : walk a (l.drop i) = W.add .i64 a (zag (l.getD i 0)) :: walk (W.add .i64 a (zag (l.getD i 0))) (l.drop (i + 1)) := by
  rw [List.drop_eq_getElem_cons h, List.getD_eq_getElem?_getD, List.getElem?_eq_getElem h]; rfl
theorem add_sub {x a : Int} (h1 : -9223372036854775808 ≤ x) (h2 : x < 9223372036854775808) : W.add .i64 a (W.sub .i64 x a) = x := by
  unfold W.add W.sub; rw [wrap_i64, wrap_i64]; omega
theorem sub_add {z a : Int} (h1 : -9223372036854775808 ≤ z) (h2 : z < 9223372036854775808) : W.sub .i64 (W.add .i64 a z) a = z := by
  unfold W.add W.sub; rw [wrap_i64, wrap_i64]; omega
theorem walk_steps : ∀ (a : Int) (l : List Int), inI l → walk a (steps a l) = l
  | _, [], _ => rfl
  | a, x :: r, h => by
    have hx := h x List.mem_cons_self
    have e : W.add .i64 a (zag (zig (W.sub .i64 x a))) = x := by rw [zag_zig, add_sub hx.1 hx.2]
    rw [steps, walk, e, walk_steps x r fun y hy => h y (List.mem_cons_of_mem _ hy)]
theorem steps_walk : ∀ (a : Int) (l : List Int), inU l → steps a (walk a l) = l
  | _, [], _ => rfl
  | a, u :: r, h => by
    have hu := h u List.mem_cons_self
    have hz := zag_in hu.1 hu.2
    rw [walk, steps, sub_add hz.1 hz.2, zig_zag hu.1, steps_walk _ r fun y hy => h y (List.mem_cons_of_mem _ hy)]
theorem walk_in : ∀ (a : Int) (l : List Int), inI (walk a l)
  | _, [] => fun x hx => by cases hx
  | a, u :: r => fun x hx => by
    rcases List.mem_cons.1 hx with rfl | hx
    · exact add_in _ _
    · exact walk_in _ r x hx
theorem steps_in : ∀ (a : Int) (l : List Int), inU (steps a l)
  | _, [] => fun x hx => by cases hx
  | a, u :: r => fun x hx => by
    rcases List.mem_cons.1 hx with rfl | hx
    · have := sub_in u a
      exact zig_in this.1 this.2
    · exact steps_in _ r x hx
theorem inI_getD {l : List Int} (h : inI l) {i : Nat} (hi : i < l.length) : -9223372036854775808 ≤ l.getD i 0 ∧ l.getD i 0 < 9223372036854775808 := by
  rw [List.getD_eq_getElem?_getD, List.getElem?_eq_getElem hi]; exact h _ (List.getElem_mem hi)
theorem steps_get : ∀ (a : Int) (l : List Int) (i : Nat), i < l.length → (steps a l).getD i 0 = zig (W.sub .i64 (l.getD i 0) (if i = 0 then a else l.getD (i - 1) 0))
  | a, x :: r, 0, _ => rfl
  | a, x :: r, i + 1, h => by
    have h : i < r.length := by simpa using h
    have ih := steps_get x r i h
    show (steps x r).getD i 0 = _
    rw [ih]
    cases i with
    | zero => rfl
    | succ i => rfl
theorem stepsTo_step {l : List Int} {i : Nat} (h : i < l.length) : stepsTo l (i + 1) = stepsTo l i ++ [zig (W.sub .i64 (l.getD i 0) (lastAt l i))] := by
  unfold stepsTo
  have hl : i < (steps 0 l).length := by rw [steps_len]; exact h
  rw [List.take_add_one, List.getElem?_eq_getElem hl]
  have := steps_get 0 l i h
  rw [List.getD_eq_getElem?_getD, List.getElem?_eq_getElem hl] at this
  have e : (steps 0 l)[i] = zig (W.sub .i64 (l.getD i 0) (lastAt l i)) := this
  rw [e]; rfl
end Sp
namespace Go.Proofs.Ytijahjkcbphmcaa
open Go.AbsM
theorem good54 : GoodC Try.prog ctr54 := by
  refine good_plain (fn := Try.f54) wide .nil ⟨by kernel_rfl, by kernel_rfl, by kernel_rfl, by kernel_rfl⟩ (by kernel_rfl) fun d hd => Blk.un ?_
  obtain ⟨u, x⟩ : Int × Unit := d
  obtain ⟨h0, h1⟩ : 0 ≤ u ∧ u < 18446744073709551616 := hd
  refine Blk.nf (nf54 u _) ?_
  exact congrArg (TV.int .i64) (Sp.zag18 h0 h1)
theorem and1 {u : Int} (h0 : 0 ≤ u) (h1 : u < 18446744073709551616) : W.and .u64 u 1 = u % 2 := by
  obtain ⟨U, rfl⟩ : ∃ U : Nat, u = U := ⟨u.toNat, by omega⟩
  have := Sp.and_u64 (x := U) (y := 1) (by omega) (by decide)
  rw [Nat.and_one_is_mod] at this
  have e : W.and .u64 (U : Int) 1 = ((U % 2 : Nat) : Int) := this
  rw [e]; omega
theorem good52 : GoodC Try.prog ctr52 := by
  refine good_plain (fn := Try.f52) wide .nil ⟨by kernel_rfl, by kernel_rfl, by kernel_rfl, by kernel_rfl⟩ (by kernel_rfl) fun d hd => Blk.un ?_
  obtain ⟨u, x⟩ : Int × Unit := d
  obtain ⟨h0, h1⟩ : 0 ≤ u ∧ u < 18446744073709551616 := hd
  refine Blk.nf (nf52 u _) ?_
  rw [and1 h0 h1]
  exact brc_ieq (fun h => congrArg (TV.int .i64) (Sp.zag19a h0 h1 h)) fun h => congrArg (TV.int .i64) (Sp.zag19b h0 h1 h)
theorem good51 : GoodC Try.prog ctr51 := by
  refine good_plain (fn := Try.f51) wide .nil ⟨by kernel_rfl, by kernel_rfl, by kernel_rfl, by kernel_rfl⟩ (by kernel_rfl) fun d hd => Blk.un ?_
  obtain ⟨n, x⟩ : Int × Unit := d
  obtain ⟨h0, h1⟩ : -9223372036854775808 ≤ n ∧ n < 9223372036854775808 := hd
  refine Blk.nf (nf51 n _) ?_
  exact brc_ilt (fun h => congrArg (TV.int .u64) (Sp.zig17a h0 h)) fun h => congrArg (TV.int .u64) (Sp.zig17b h1 h)
theorem good54L : Goods Try.prog [ctr54] := .cons good54 .nil
theorem good51L : Goods Try.prog [ctr51] := .cons good51 .nil
theorem good49 : GoodC Try.prog ctr49 := by
  refine good_jump (fn := Try.f49) [2] [8] (fun i : List Int × Int × Int × List Int => i.1.length - i.2.1.toNat) wide good54L ⟨by kernel_rfl, by kernel_rfl, by kernel_rfl, by kernel_rfl⟩ (by kernel_rfl) (by kernel_rfl) (by kernel_rfl) (by kernel_rfl) (n := 27) (ls := [0, 3, 4, 5]) (ks := [8]) (mk := mk49) (ψ := psi49) (l := 0) ?_ ?_
  · rintro ⟨l, i, a, xs⟩ Φ ⟨⟨hl, hn, h0, h1, hx⟩, hΦ⟩
    simp only at hl hn h0 h1 hx hΦ
    obtain ⟨n, rfl⟩ : ∃ n : Nat, i = n := ⟨i.toNat, by omega⟩
    refine Eq.mpr (nf49s _ _ _ _ l n a xs Φ _) ?_
    have e1 : W.ofNat (W.len l) = (l.length : Int) := rfl
    have e2 : W.toNat (n : Int) = n := rfl
    have e3 : W.nth l n 0 = l.getD n 0 := rfl
    have e4 : ((n : Int)).toNat = n := rfl
    rw [e1, e2, e3]
    rw [e4] at hΦ hx
    refine brc_ieq (fun h => ?_) fun h => ?_
    · have : l.drop n = [] := List.drop_eq_nil_of_le (by omega)
      rw [this, Sp.walk, List.append_nil] at hΦ
      exact hΦ
    · have hlt : n < l.length := by omega
      have hg := Sp.inU_getD hl hlt
      rw [Sp.walk_drop a hlt] at hΦ
      have e9 : W.add .i64 (n : Int) 1 = (n : Int) + 1 := W.add_i64 (by omega) (by omega)
      rw [e9]
      refine grd_ile (by omega) (grd_nlt hlt ⟨hg, grd_nle (by simp only [W.nmul, W.nadd, W.len, List.length_cons, List.length_nil]; omega) ⟨(l, (n : Int) + 1, W.add .i64 a (Sp.zag (l.getD n 0)), xs ++ [W.add .i64 a (Sp.zag (l.getD n 0))]), rfl, ?_, ⟨hl, hn, ?_, ?_, ?_⟩, ?_⟩⟩)
      · show l.length - ((n : Int) + 1).toNat < l.length - n; omega
      · show 0 ≤ (n : Int) + 1; omega
      · show (n : Int) + 1 ≤ l.length; omega
      · show (xs ++ [_]).length ≤ ((n : Int) + 1).toNat
        rw [List.length_append]; simp only [List.length_cons, List.length_nil]; omega
      · show Φ .ret (mkS 27 [(2, TV.h 8)] [(8, .arr false 2 (.int .i64) ((xs ++ [_]) ++ Sp.walk (W.add .i64 a (Sp.zag (l.getD n 0))) (l.drop ((n : Int) + 1).toNat)))])
        have e5 : ((n : Int) + 1).toNat = n + 1 := by omega
        rw [e5]
        exact Eq.mpr (congrArg (fun y : List Int => Φ .ret (mkS 27 [(2, TV.h 8)] [(8, .arr false 2 (.int .i64) y)])) (List.append_assoc xs [W.add .i64 a (Sp.zag (l.getD n 0))] (Sp.walk (W.add .i64 a (Sp.zag (l.getD n 0))) (l.drop (n + 1))))) hΦ
  · intro d hd
    obtain ⟨l, x⟩ : List Int × Unit := d
    obtain ⟨hl, hn⟩ : Sp.inU l ∧ l.length < 1000000 := hd
    refine Eq.mpr (nf49 l _) ?_
    have e1 : W.ofNat (W.len l) = (l.length : Int) := rfl
    have e3 : W.nth l 0 0 = l.getD 0 0 := rfl
    rw [e1, e3]
    refine grd_ile (by omega) (grd_ile (by simp only [W.bys]; omega) (brc_ieq (fun h => ?_) fun h => ?_))
    · have : l = [] := List.length_eq_zero_iff.1 (by omega)
      subst this; rfl
    · have hlt : 0 < l.length := by omega
      have hg := Sp.inU_getD hl hlt
      refine grd_nlt hlt ⟨hg, ⟨(l, 1, W.add .i64 0 (Sp.zag (l.getD 0 0)), [W.add .i64 0 (Sp.zag (l.getD 0 0))]), rfl, ⟨hl, hn, ?_, ?_, ?_⟩, ?_⟩⟩
      · show (0 : Int) ≤ 1; omega
      · show (1 : Int) ≤ l.length; omega
      · show 1 ≤ (1 : Int).toNat; decide
      · have := Sp.walk_drop (l := l) (i := 0) 0 hlt
        rw [List.drop_zero] at this
        show TV.o (.own 2 (.int .i64) ([_] ++ Sp.walk (W.add .i64 0 (Sp.zag (l.getD 0 0))) (l.drop 1))) = TV.o (.own 2 (.int .i64) (Sp.walk 0 l))
        rw [this]; rfl
theorem good38 : GoodC Try.prog ctr38 := by
  refine good_loop (fn := Try.f38) [3] [21] (fun i : List Int × Nat × Int × List Int => i.1.length - i.2.1) wide good51L ⟨by kernel_rfl, by kernel_rfl, by kernel_rfl, by kernel_rfl⟩ (by kernel_rfl) (by kernel_rfl) (by kernel_rfl) (by kernel_rfl) (n := 27) (ls := [0, 3, 4, 5]) (ks := [21]) (mk := mk38) (ψ := psi38) (id := 0) ?_ ?_
  · rintro ⟨l, i, a, xs⟩ Φ ⟨⟨hl, hn, h1, ha, hx⟩, hz, hnz⟩
    simp only at hl hn h1 ha hx hz hnz
    cases i with
    | zero =>
      refine Eq.mpr (nf38a _ mk38 psi38 (fun i : List Int × Nat × Int × List Int => i.1.length - i.2.1) l Φ _) ?_
      have e1 : W.ofNat (W.len l) = (l.length : Int) := rfl
      have e3 : W.nth l 0 0 = l.getD 0 0 := rfl
      rw [e1, e3]
      refine brc_ilt (fun h => ?_) fun h => hz (by omega)
      have hlt : 0 < l.length := by omega
      refine grd_nlt hlt ⟨Sp.sub_in _ _, grd_nlt hlt ⟨(l, 1, l.getD 0 0, [Sp.zig (W.sub .i64 (l.getD 0 0) 0)]), rfl, ?_, ⟨hl, hn, ?_, rfl, ?_⟩, hz, hnz⟩⟩
      · show l.length - 1 < l.length - 0; omega
      · show 1 ≤ l.length; omega
      · show [Sp.zig (W.sub .i64 (l.getD 0 0) 0)] = Sp.stepsTo l (0 + 1)
        rw [Sp.stepsTo_step hlt]; rfl
    | succ i =>
      have hxl : xs.length = i + 1 := by
        rw [hx]; unfold Sp.stepsTo; rw [List.length_take, Sp.steps_len]; omega
      refine Eq.mpr (nf38b _ mk38 psi38 (fun i : List Int × Nat × Int × List Int => i.1.length - i.2.1) l ((i + 1 : Nat) : Int) a xs Φ _) ?_
      have e1 : W.ofNat (W.len l) = (l.length : Int) := rfl
      have e2 : W.toNat ((i + 1 : Nat) : Int) = i + 1 := rfl
      have e3 : W.nth l (i + 1) 0 = l.getD (i + 1) 0 := rfl
      rw [e1, e2, e3]
      refine brc_ilt (fun h => ?_) fun h => ?_
      · have hlt : i + 1 < l.length := by omega
        have e5 : W.add .i64 ((i + 1 : Nat) : Int) 1 = ((i + 2 : Nat) : Int) := by rw [W.add_i64 (by omega) (by omega)]; omega
        rw [e5]
        refine grd_ile (by omega) (grd_nlt hlt ⟨Sp.sub_in _ _, grd_nle (by simp only [W.nmul, W.nadd, W.len, List.length_cons, List.length_nil]; omega) (grd_ile (by omega) (grd_nlt hlt ⟨(l, i + 2, l.getD (i + 1) 0, xs ++ [Sp.zig (W.sub .i64 (l.getD (i + 1) 0) a)]), rfl, ?_, ⟨hl, hn, ?_, rfl, ?_⟩, hz, hnz⟩))⟩)
        · show l.length - (i + 2) < l.length - (i + 1); omega
        · show i + 2 ≤ l.length; omega
        · show xs ++ [Sp.zig (W.sub .i64 (l.getD (i + 1) 0) a)] = Sp.stepsTo l (i + 1 + 1)
          rw [Sp.stepsTo_step hlt, hx, ha]
      · have : i + 1 = l.length := by omega
        have hxs : xs = Sp.steps 0 l := by
          rw [hx]; unfold Sp.stepsTo
          exact List.take_of_length_le (by rw [Sp.steps_len]; omega)
        rw [hxs]; exact hnz (by omega)
  · intro d hd
    obtain ⟨l, x⟩ : List Int × Unit := d
    obtain ⟨hl, hn⟩ : Sp.inI l ∧ l.length < 1000000 := hd
    refine Eq.mpr (nf38 l _) ⟨(l, 0, 0, []), rfl, ⟨hl, hn, Nat.zero_le _, rfl, rfl⟩, fun h => ?_, fun h => ?_⟩
    · have h : l.length = 0 := h
      show _ = (if l.length = 0 then _ else _)
      rw [if_pos h]
    · have h : l.length ≠ 0 := h
      show _ = (if l.length = 0 then _ else _)
      rw [if_neg h]
theorem good39 : GoodC Try.prog ctr39 := by
  refine good_loop (fn := Try.f39) [4] [] (fun i : List Int × List Int × Int => i.1.length - i.2.2.toNat) wide .nil ⟨by kernel_rfl, by kernel_rfl, by kernel_rfl, by kernel_rfl⟩ (by kernel_rfl) (by kernel_rfl) (by kernel_rfl) (by kernel_rfl) (n := 26) (ls := [0, 1, 4, 5]) (ks := []) (mk := mk39) (ψ := psi39) (id := 0) ?_ ?_
  · rintro ⟨a, b, i⟩ Φ ⟨⟨hab, hn, h0, h1, ht⟩, hT, hF⟩
    simp only at hab hn h0 h1 ht hT hF
    obtain ⟨n, rfl⟩ : ∃ n : Nat, i = n := ⟨i.toNat, by omega⟩
    refine Eq.mpr (nf39s _ _ _ _ a b n Φ _) ?_
    have e1 : W.ofNat (W.len a) = (a.length : Int) := rfl
    have e2 : W.toNat (n : Int) = n := rfl
    have e3 : W.nth a n 0 = a.getD n 0 := rfl
    have e3' : W.nth b n 0 = b.getD n 0 := rfl
    have e4 : ((n : Int)).toNat = n := rfl
    rw [e1, e2, e3, e3']
    rw [e4] at ht
    refine brc_ilt (fun h => ?_) fun h => ?_
    · have hlt : n < a.length := by omega
      have hlb : n < b.length := by omega
      have g1 : W.ile 0 (n : Int) = true := decide_eq_true (by omega)
      have g2 : W.nlt n (W.len a) = true := decide_eq_true hlt
      have g3 : W.nlt n (W.len b) = true := decide_eq_true hlb
      rw [W.add_i64 (by omega) (by omega)]
      refine grd_true g1 (grd_true g2 (grd_true g1 (grd_true g3 (brc_ine (fun h => ?_) fun h => ⟨(a, b, (n : Int) + 1), rfl, ?_, ⟨hab, hn, ?_, ?_, ?_⟩, hT, hF⟩))))
      · exact hF (take_ne hlt hlb h)
      · show a.length - ((n : Int) + 1).toNat < a.length - n; omega
      · show 0 ≤ (n : Int) + 1; omega
      · show (n : Int) + 1 ≤ a.length; omega
      · show a.take ((n : Int) + 1).toNat = b.take ((n : Int) + 1).toNat
        have e5 : ((n : Int) + 1).toNat = n + 1 := by omega
        rw [e5]; exact take_eq hlt hlb ht h
    · rw [List.take_of_length_le (by omega), List.take_of_length_le (by omega)] at ht
      exact hT ht
  · intro d hd
    obtain ⟨a, b, x⟩ : List Int × List Int × Unit := d
    have hn : a.length < 1000000 := hd
    refine Eq.mpr (nf39 a b _) ?_
    have e1 : W.ofNat (W.len a) = (a.length : Int) := rfl
    have e2 : W.ofNat (W.len b) = (b.length : Int) := rfl
    rw [e1, e2]
    refine brc_ine (fun h => ?_) fun h => ⟨(a, b, 0), rfl, ⟨by show a.length = b.length; omega, hn, ?_, ?_, rfl⟩, fun h => ?_, fun h => ?_⟩
    · show TV.bool false = TV.bool (Sp.same a b)
      have : Sp.same a b = false := decide_eq_false (fun e => h (by rw [e]))
      rw [this]
    · show (0 : Int) ≤ 0; omega
    · show (0 : Int) ≤ a.length; omega
    · show TV.bool true = TV.bool (Sp.same a b)
      have : Sp.same a b = true := decide_eq_true h
      rw [this]
    · show TV.bool false = TV.bool (Sp.same a b)
      have : Sp.same a b = false := decide_eq_false h
      rw [this]

end Go.Proofs.Ytijahjkcbphmcaa
