/-
  Texts of a proof over the translated program: N6Steps.
-/
import Derived.Test.YtijahjkcbphmcaaN6StepsNf
import Derived.Test.YtijahjkcbphmcaaN6Known
set_option linter.unusedVariables false
namespace Go.Proofs.Ytijahjkcbphmcaa
open Go.AbsM
theorem good50 {L : List TCtr} (hL : Goods Try.prog L) : GoodC Try.prog ctr50 := by
  refine good_plain (fn := Try.f50) wide hL ⟨by kernel_rfl, by kernel_rfl, by kernel_rfl, by kernel_rfl⟩ (by kernel_rfl) fun d hd => ?_
  obtain ⟨a, x⟩ : Int × Unit := d
  obtain ⟨h1, h2⟩ : -9223372036854775808 ≤ a ∧ a < 9223372036854775808 := hd
  refine Eq.mpr (nf50 L a _) ?_
  rw [Sp.zig16 h1 h2]; rfl
theorem good50L : Goods Try.prog [ctr50] := .cons (good50 .nil) .nil
theorem inI_get {l : List Int} (h : Sp.inI l) {i : Nat} (hi : i < l.length) : -9223372036854775808 ≤ l.getD i 0 ∧ l.getD i 0 < 9223372036854775808 := by
  rw [List.getD_eq_getElem?_getD, List.getElem?_eq_getElem hi]; exact h _ (List.getElem_mem hi)
theorem good37 : GoodC Try.prog ctr37 := by
  refine good_jump (fn := Try.f37) [2] [8] (fun i : List Int × Int × Int × List Int => i.1.length - i.2.1.toNat) wide good50L ⟨by kernel_rfl, by kernel_rfl, by kernel_rfl, by kernel_rfl⟩ (by kernel_rfl) (by kernel_rfl) (by kernel_rfl) (by kernel_rfl) (n := 30) (ls := [0, 3, 4, 5]) (ks := [8]) (mk := mk37) (ψ := psi37) (l := 0) ?_ ?_
  · rintro ⟨l, i, a, xs⟩ Φ ⟨⟨hl, hn, h0, h1, hx, ha0, ha1⟩, hΦ⟩
    simp only at hl hn h0 h1 hx ha0 ha1 hΦ
    obtain ⟨n, rfl⟩ : ∃ n : Nat, i = n := ⟨i.toNat, by omega⟩
    refine Eq.mpr (nf37s _ _ _ l n a xs Φ _) ?_
    have e1 : W.ofNat (W.len l) = (l.length : Int) := rfl
    have e2 : W.toNat (n : Int) = n := rfl
    have e3 : W.nth l n 0 = l.getD n 0 := rfl
    have e4 : ((n : Int)).toNat = n := rfl
    rw [e1, e2, e3]
    rw [e4] at hΦ hx
    refine brc_ieq (fun h => ?_) fun h => ?_
    · have : l.drop n = [] := List.drop_eq_nil_of_le (by omega)
      rw [this, Sp.steps, List.append_nil] at hΦ
      exact hΦ
    · have hlt : n < l.length := by omega
      have g1 : W.ile 0 (n : Int) = true := decide_eq_true (by omega)
      have g2 : W.nlt n (W.len l) = true := decide_eq_true hlt
      have hg := inI_get hl hlt
      rw [Sp.steps_drop a hlt] at hΦ
      rw [W.add_i64 (by omega) (by omega)]
      refine grd_true g1 (grd_true g2 ⟨Sp.sub_in _ _, grd_nle (by simp only [W.nmul, W.nadd, W.len, List.length_cons, List.length_nil]; omega) (grd_true g1 (grd_true g2 ⟨(l, (n : Int) + 1, l.getD n 0, xs ++ [Sp.zig (W.sub .i64 (l.getD n 0) a)]), rfl, ?_, ⟨hl, hn, ?_, ?_, ?_, hg.1, hg.2⟩, ?_⟩))⟩)
      · show l.length - ((n : Int) + 1).toNat < l.length - n; omega
      · show 0 ≤ (n : Int) + 1; omega
      · show (n : Int) + 1 ≤ l.length; omega
      · show (xs ++ [_]).length ≤ ((n : Int) + 1).toNat
        rw [List.length_append]; simp only [List.length_cons, List.length_nil]; omega
      · show Φ .ret (mkS 30 [(2, TV.h 8)] [(8, .arr false 39 (.int .u64) ((xs ++ [_]) ++ Sp.steps (l.getD n 0) (l.drop ((n : Int) + 1).toNat)))])
        have e5 : ((n : Int) + 1).toNat = n + 1 := by omega
        rw [e5]
        exact Eq.mpr (congrArg (fun y : List Int => Φ .ret (mkS 30 [(2, TV.h 8)] [(8, .arr false 39 (.int .u64) y)])) (List.append_assoc xs [Sp.zig (W.sub .i64 (l.getD n 0) a)] (Sp.steps (l.getD n 0) (l.drop (n + 1))))) hΦ
  · intro d hd
    obtain ⟨l, x⟩ : List Int × Unit := d
    obtain ⟨hl, hn⟩ : Sp.inI l ∧ l.length < 1000000 := hd
    refine Eq.mpr (nf37 l _) ?_
    have e1 : W.ofNat (W.len l) = (l.length : Int) := rfl
    have e3 : W.nth l 0 0 = l.getD 0 0 := rfl
    rw [e1, e3]
    refine grd_ile (by omega) (grd_ile (by simp only [W.bys]; omega) (brc_ieq (fun h => ?_) fun h => ?_))
    · have : l = [] := List.length_eq_zero_iff.1 (by omega)
      subst this; rfl
    · have hlt : 0 < l.length := by omega
      have g2 : W.nlt 0 (W.len l) = true := decide_eq_true hlt
      have hg := inI_get hl hlt
      refine grd_true g2 ⟨Sp.sub_in _ _, grd_true g2 ⟨(l, 1, l.getD 0 0, [Sp.zig (W.sub .i64 (l.getD 0 0) 0)]), rfl, ⟨hl, hn, ?_, ?_, ?_, hg.1, hg.2⟩, ?_⟩⟩
      · show (0 : Int) ≤ 1; omega
      · show (1 : Int) ≤ l.length; omega
      · show 1 ≤ (1 : Int).toNat; decide
      · have := Sp.steps_drop (l := l) (i := 0) 0 hlt
        rw [List.drop_zero] at this
        show TV.o (.own 39 (.int .u64) ([_] ++ Sp.steps (l.getD 0 0) (l.drop 1))) = TV.o (.own 39 (.int .u64) (Sp.steps 0 l))
        rw [this]; rfl

theorem take_ne {a b : List Int} {n : Nat} (ha : n < a.length) (hb : n < b.length) (h : a.getD n 0 ≠ b.getD n 0) : a ≠ b := by
  intro e; subst e; exact h rfl
theorem take_eq {a b : List Int} {n : Nat} (ha : n < a.length) (hb : n < b.length) (ht : a.take n = b.take n) (h : a.getD n 0 = b.getD n 0) : a.take (n + 1) = b.take (n + 1) := by
  rw [List.take_succ_eq_append_getElem ha, List.take_succ_eq_append_getElem hb, ht]
  rw [List.getD_eq_getElem?_getD, List.getD_eq_getElem?_getD, List.getElem?_eq_getElem ha, List.getElem?_eq_getElem hb] at h
  have h : a[n] = b[n] := h
  rw [h]
theorem good22 {L : List TCtr} (hL : Goods Try.prog L) : GoodC Try.prog ctr22 := by
  refine good_loop (fn := Try.f22) [4] [] (fun i : List Int × List Int × Int => i.1.length - i.2.2.toNat) wide hL ⟨by kernel_rfl, by kernel_rfl, by kernel_rfl, by kernel_rfl⟩ (by kernel_rfl) (by kernel_rfl) (by kernel_rfl) (by kernel_rfl) (n := 26) (ls := [0, 1, 4, 5]) (ks := []) (mk := mk22) (ψ := psi22) (id := 0) ?_ ?_
  · rintro ⟨a, b, i⟩ Φ ⟨⟨hab, hn, h0, h1, ht⟩, hT, hF⟩
    simp only at hab hn h0 h1 ht hT hF
    obtain ⟨n, rfl⟩ : ∃ n : Nat, i = n := ⟨i.toNat, by omega⟩
    refine Eq.mpr (nf22s L _ _ _ a b n Φ _) ?_
    have e1 : W.ofNat (W.len a) = (a.length : Int) := rfl
    have e2 : W.toNat (n : Int) = n := rfl
    have e3 : W.nth a n 0 = a.getD n 0 := rfl
    have e3' : W.nth b n 0 = b.getD n 0 := rfl
    have e4 : ((n : Int)).toNat = n := rfl
    rw [e1, e2, e3, e3']
    rw [e4] at ht
    refine brc_ilt (fun h => ?_) fun h => ?_
    · have hlt : n < a.length := by omega
      have hlb : n < b.length := by omega
      have g1 : W.ile 0 (n : Int) = true := decide_eq_true (by omega)
      have g2 : W.nlt n (W.len a) = true := decide_eq_true hlt
      have g3 : W.nlt n (W.len b) = true := decide_eq_true hlb
      rw [W.add_i64 (by omega) (by omega)]
      refine grd_true g1 (grd_true g2 (grd_true g1 (grd_true g3 (brc_ine (fun h => ?_) fun h => ⟨(a, b, (n : Int) + 1), rfl, ?_, ⟨hab, hn, ?_, ?_, ?_⟩, hT, hF⟩))))
      · exact hF (take_ne hlt hlb h)
      · show a.length - ((n : Int) + 1).toNat < a.length - n; omega
      · show 0 ≤ (n : Int) + 1; omega
      · show (n : Int) + 1 ≤ a.length; omega
      · show a.take ((n : Int) + 1).toNat = b.take ((n : Int) + 1).toNat
        have e5 : ((n : Int) + 1).toNat = n + 1 := by omega
        rw [e5]; exact take_eq hlt hlb ht h
    · rw [List.take_of_length_le (by omega), List.take_of_length_le (by omega)] at ht
      exact hT ht
  · intro d hd
    obtain ⟨a, b, x⟩ : List Int × List Int × Unit := d
    have hn : a.length < 1000000 := hd
    refine Eq.mpr (nf22 L a b _) ?_
    have e1 : W.ofNat (W.len a) = (a.length : Int) := rfl
    have e2 : W.ofNat (W.len b) = (b.length : Int) := rfl
    rw [e1, e2]
    refine brc_ine (fun h => ?_) fun h => ⟨(a, b, 0), rfl, ⟨by show a.length = b.length; omega, hn, ?_, ?_, rfl⟩, fun h => ?_, fun h => ?_⟩
    · show TV.bool false = TV.bool (Sp.same a b)
      have : Sp.same a b = false := decide_eq_false (fun e => h (by rw [e]))
      rw [this]
    · show (0 : Int) ≤ 0; omega
    · show (0 : Int) ≤ a.length; omega
    · show TV.bool true = TV.bool (Sp.same a b)
      have : Sp.same a b = true := decide_eq_true h
      rw [this]
    · show TV.bool false = TV.bool (Sp.same a b)
      have : Sp.same a b = false := decide_eq_false h
      rw [this]

theorem goodSh : Goods Try.prog shiftL := .cons good33 (.cons good37 (.cons (good22 .nil) .nil))
def law15 : TCtr := lawC 15 [.l 2 (.int .i64), .v (.int .i64)] (fun (d : List Int × Int × Unit) => Sp.inI d.1 ∧ -9223372036854775808 ≤ d.2.1 ∧ d.2.1 < 9223372036854775808)
theorem good15 : GoodC Try.prog law15 := by
  refine good_loop (fn := Try.f15) [0, 1, 4, 5, 6] [33] (fun i : List Int × Int × Nat => i.1.length - i.2.2) wide goodSh ⟨by kernel_rfl, by kernel_rfl, by kernel_rfl, by kernel_rfl⟩ (by kernel_rfl) (by kernel_rfl) (by kernel_rfl) (by kernel_rfl) (n := 69) (ls := [0, 1, 4, 5, 6]) (ks := [33]) (mk := mk15) (ψ := psi15) (id := 0) ?_ ?_
  · rintro ⟨l, b, n⟩ Φ ⟨⟨hl, hne, hlen, hn⟩, hΦ⟩
    simp only at hl hne hlen hn hΦ
    have e1 : W.ofNat (W.len l) = (l.length : Int) := rfl
    cases n with
    | zero =>
      refine Eq.mpr (nf15a _ _ _ l b Φ _) ?_
      have e3 : W.nth l 0 0 = l.getD 0 0 := rfl
      rw [e1, e3]
      have hlt : 0 < l.length := by omega
      refine brc_ilt (fun h => grd_nlt hlt ⟨(l, b, 1), ?_, ?_, ⟨hl, hne, hlen, ?_⟩, hΦ⟩) fun h => by omega
      · have h1 := Sp.moved_succ b hlt
        show _ = mk15b (l, b, ((0 + 1 : Nat) : Int), Sp.moved b (l.take (0 + 1)))
        rw [h1]; rfl
      · show l.length - 1 < l.length - 0; omega
      · show 1 ≤ l.length; omega
    | succ n =>
      refine Eq.mpr (nf15b _ _ _ l b ((n + 1 : Nat) : Int) _ Φ _) ?_
      have e2 : W.toNat ((n + 1 : Nat) : Int) = n + 1 := rfl
      have e3 : W.nth l (n + 1) 0 = l.getD (n + 1) 0 := rfl
      rw [e1, e2, e3]
      refine brc_ilt (fun h => ?_) fun h => ?_
      · have hlt : n + 1 < l.length := by omega
        rw [W.add_i64 (a := ((n + 1 : Nat) : Int)) (by omega) (by omega)]
        have hml := Sp.moved_len b (l.take (n + 1))
        have htl : (l.take (n + 1)).length = n + 1 := by simp; omega
        refine grd_ile (by omega) (grd_nlt hlt (grd_nle (by simp only [W.nmul, W.nadd, W.len, List.length_cons, List.length_nil]; omega) ⟨(l, b, n + 2), ?_, ?_, ⟨hl, hne, hlen, ?_⟩, hΦ⟩))
        · have h1 := Sp.moved_succ b hlt
          show _ = mk15b (l, b, ((n + 1 + 1 : Nat) : Int), Sp.moved b (l.take (n + 1 + 1)))
          rw [h1]; rfl
        · show l.length - (n + 2) < l.length - (n + 1); omega
        · show n + 2 ≤ l.length; omega
      · have hn1 : n + 1 = l.length := by omega
        rw [← hn1] at hΦ
        have ht : l.take (n + 1) = l := List.take_of_length_le (by omega)
        rw [ht]; exact hΦ
  · intro d hd
    obtain ⟨l, b, x⟩ : List Int × Int × Unit := d
    obtain ⟨hl, h0, h1⟩ : Sp.inI l ∧ -9223372036854775808 ≤ b ∧ b < 9223372036854775808 := hd
    refine Eq.mpr (nf15 l b _) ⟨trivial, ?_⟩
    have e1 : W.ofNat (W.len l) = (l.length : Int) := rfl
    rw [e1]
    refine brc_ieq (fun _ => rfl) fun hne => brc_igt (fun _ => rfl) fun hlen => ?_
    have hml := Sp.moved_len b l
    have hs := Sp.steps_len 0 l
    have hsm := Sp.steps_len 0 (Sp.moved b l)
    refine ⟨(l, b, 0), rfl, ⟨hl, by show l.length ≠ 0; omega, by show l.length ≤ 100; omega, Nat.zero_le _⟩, ⟨hl, by show l.length < 1000000; omega⟩, ⟨Sp.moved_in b l, by show (Sp.moved b l).length < 1000000; omega⟩, ?_⟩
    simp only
    have f1 : W.ofNat (W.len (Sp.steps 0 l)) = (l.length : Int) := by show ((Sp.steps 0 l).length : Int) = _; omega
    have f2 : W.ofNat (W.len (Sp.steps 0 (Sp.moved b l))) = (l.length : Int) := by show ((Sp.steps 0 (Sp.moved b l)).length : Int) = _; omega
    have f3 : W.ofNat (W.len l) = (l.length : Int) := rfl
    rw [f1, f2, f3]
    obtain ⟨y, r, rfl⟩ : ∃ y r, l = y :: r := by
      cases l with
      | nil => exact absurd rfl hne
      | cons y r => exact ⟨y, r, rfl⟩
    have hy := hl y List.mem_cons_self
    have hst : Sp.steps 0 (y :: r) = Sp.zig y :: Sp.steps y r := by
      show Sp.zig (W.sub .i64 y 0) :: _ = _
      rw [Sp.sub_zero hy.1 hy.2]
    have hin := Sp.add_in y b
    have hst2 : Sp.steps 0 (Sp.moved b (y :: r)) = Sp.zig (W.add .i64 y b) :: Sp.steps y r := by
      show Sp.zig (W.sub .i64 (W.add .i64 y b) 0) :: Sp.steps (W.add .i64 y b) (Sp.moved b r) = _
      rw [Sp.sub_zero hin.1 hin.2, Sp.steps_moved]
    rw [hst, hst2]
    have hd1 : W.take (W.nsub (W.len (Sp.zig y :: Sp.steps y r)) 1) (W.drop 1 (Sp.zig y :: Sp.steps y r)) = Sp.steps y r := List.take_length
    have hd2 : W.take (W.nsub (W.len (Sp.zig (W.add .i64 y b) :: Sp.steps y r)) 1) (W.drop 1 (Sp.zig (W.add .i64 y b) :: Sp.steps y r)) = Sp.steps y r := List.take_length
    rw [hd1, hd2]
    have hlr := Sp.steps_len y r
    have hlen2 : (y :: r).length = r.length + 1 := rfl
    refine brc_ieq (fun _ => brc_ieq (fun _ => grd_ile (by omega) (grd_ile (by omega) (grd_neq rfl (grd_neq rfl ⟨by rw [hlr]; omega, ?_⟩)))) fun h => absurd rfl h) fun h => absurd rfl h
    refine brc_yes (decide_eq_true rfl) (grd_nlt (Nat.succ_pos _) (grd_nlt (Nat.succ_pos _) (grd_nlt (Nat.succ_pos _) (grd_nlt (Nat.succ_pos _) ?_))))
    have g1 : W.nth (Sp.zig y :: Sp.steps y r) 0 0 = Sp.zig y := rfl
    have g2 : W.nth (Sp.zig (W.add .i64 y b) :: Sp.steps y r) 0 0 = Sp.zig (W.add .i64 y b) := rfl
    rw [g1, g2]
    have hiff := Sp.add_eq (b := b) hy.1 hy.2 h0 h1
    by_cases hb : b = 0
    · have : W.beq (W.ieq (Sp.zig y) (Sp.zig (W.add .i64 y b))) (W.ieq b 0) = true := by
        rw [← hiff.2 hb, hb]; simp [W.ieq, W.beq]
      rw [this]; rfl
    · have : W.beq (W.ieq (Sp.zig y) (Sp.zig (W.add .i64 y b))) (W.ieq b 0) = true := by
        have n1 : W.ieq b 0 = false := beq_eq_false_iff_ne.2 hb
        have n2 : W.ieq (Sp.zig y) (Sp.zig (W.add .i64 y b)) = false := beq_eq_false_iff_ne.2 fun e => hb (hiff.1 (Sp.zig_inj e))
        rw [n1, n2]; rfl
      rw [this]; rfl
end Go.Proofs.Ytijahjkcbphmcaa
