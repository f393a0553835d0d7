/-
  Texts of a proof over the translated program: N4DD.
-/
import Derived.Test.YtijahjkcbphmcaaN4DC
set_option linter.unusedVariables false
namespace Sp
open Go Go.AbsM
theorem width64 {l : List Int} (h : inU l) : width l ≤ 64 := by
  have := bitLen_le.2 (orAll_lt h)
  unfold width; omega
theorem err_steps {l : List Int} (h : l.length ≤ 65536) : err (steps 0 l) (width (steps 0 l)) = 0 := err_is (width_nonneg _) (width64 (steps_in 0 l)) (Int.le_refl _) (by rw [steps_len]; exact h)
theorem wrapw (l : List Int) (h : inU l) : W.wrap .u8 (width l) = width l := W.wu8_in (width_nonneg _) (by have := width64 h; omega)
theorem derr1 {b : List Int} {n : Int} (h : n < 0 ∨ 65536 < n) : derr b n = 1 := by unfold derr; rw [if_pos h]
theorem derr5 {b : List Int} {n : Int} (h : ¬ (n < 0 ∨ 65536 < n)) (hb : b.length = 0) : derr b n = 5 := by unfold derr; rw [if_neg h, if_pos hb]
theorem derrG {b : List Int} {n : Int} (h : ¬ (n < 0 ∨ 65536 < n)) (hb : ¬ b.length = 0) (hg : gerr (tl b) n (hd b) ≠ 0) : derr b n = gerr (tl b) n (hd b) := by unfold derr; rw [if_neg h, if_neg hb, if_pos hg]
theorem derr2 {b : List Int} {n : Int} (h : ¬ (n < 0 ∨ 65536 < n)) (hb : ¬ b.length = 0) (hg : gerr (tl b) n (hd b) = 0) (hw : width (got (tl b) n (hd b)) ≠ hd b) : derr b n = 2 := by unfold derr; rw [if_neg h, if_neg hb, if_neg (fun hh => hh hg), if_pos hw]
theorem derr0 {b : List Int} {n : Int} (h : ¬ (n < 0 ∨ 65536 < n)) (hb : ¬ b.length = 0) (hg : gerr (tl b) n (hd b) = 0) (hw : width (got (tl b) n (hd b)) = hd b) : derr b n = 0 := by unfold derr; rw [if_neg h, if_neg hb, if_neg (fun hh => hh hg), if_neg (fun hh => hh hw)]
theorem tl_eq (b : List Int) : W.drop 1 (W.take (W.len b) b) = tl b := by
  show (b.take b.length).drop 1 = b.drop 1
  rw [List.take_length]
theorem hd_eq {b : List Int} (h : bytes b) : W.wrap .i64 (W.nth b 0 0) = hd b := by
  have := bytes_get h 0
  exact W.wi64_in (by show -9223372036854775808 ≤ b.getD 0 0; omega) (by show b.getD 0 0 < _; omega)
theorem tl_bytes {b : List Int} (h : bytes b) : bytes (tl b) := fun x hx => h x (List.mem_of_mem_drop hx)
end Sp
namespace Go.Proofs.Ytijahjkcbphmcaa
open Go.AbsM
theorem good34L : Goods Try.prog [ctr37, ctr19, ctr17] := .cons good37 (.cons good19 (.cons good17 .nil))
theorem good36L : Goods Try.prog [ctr38, ctr20, ctr18] := .cons good38 (.cons good20 (.cons good18 .nil))
theorem good35L : Goods Try.prog [ctr21, ctr19, ctr49] := .cons good21 (.cons good19 (.cons good49 .nil))
theorem good40L : Goods Try.prog [ctr24, ctr20, ctr52] := .cons good24 (.cons good20 (.cons good52 .nil))
theorem good34 : GoodC Try.prog ctr34 := by
  refine good_plain (fn := Try.f34) wide good34L ⟨by kernel_rfl, by kernel_rfl, by kernel_rfl, by kernel_rfl⟩ (by kernel_rfl) fun d hd => Blk.un ?_
  obtain ⟨l, x⟩ : List Int × Unit := d
  obtain ⟨hl, hn⟩ : Sp.inI l ∧ l.length ≤ 65536 := hd
  have hs := Sp.steps_in 0 l
  have hsl := Sp.steps_len 0 l
  have hw := Sp.wrapw _ hs
  have ho := Sp.outP_len (Sp.steps 0 l) (Sp.width (Sp.steps 0 l))
  refine Blk.nf (nf34 l _) ⟨⟨hl, by omega⟩, ⟨hs, by omega⟩, ⟨hs, by omega⟩, fun h => absurd (Sp.err_steps hn) h, fun _ => ?_⟩
  rw [hw]
  exact grd_nle (by simp only [W.nmul, W.nadd, W.len, List.length_cons, List.length_nil]; omega) rfl
theorem good36 : GoodC Try.prog ctr36 := by
  refine good_plain (fn := Try.f36) wide good36L ⟨by kernel_rfl, by kernel_rfl, by kernel_rfl, by kernel_rfl⟩ (by kernel_rfl) fun d hd => Blk.un ?_
  obtain ⟨l, x⟩ : List Int × Unit := d
  obtain ⟨hl, hn⟩ : Sp.inI l ∧ l.length ≤ 65536 := hd
  have hs := Sp.steps_in 0 l
  have hsl := Sp.steps_len 0 l
  have hw := Sp.wrapw _ hs
  have ho := Sp.outP_len (Sp.steps 0 l) (Sp.width (Sp.steps 0 l))
  have one : 1 ≤ 9223372036854775807 := by omega
  have non : ∀ x : Int, List.Mem x [] → 0 ≤ x ∧ x < 18446744073709551616 := fun x hx => by cases hx
  refine Blk.nf (nf36 l _) ⟨⟨hl, by omega⟩, fun h => ⟨⟨non, one⟩, ⟨non, one⟩, fun h => absurd rfl h, fun _ => ⟨⟨non, one⟩, ?_⟩⟩, fun h => ⟨⟨hs, by omega⟩, ⟨hs, by omega⟩, fun h => absurd (Sp.err_steps hn) h, fun _ => ⟨⟨hs, by omega⟩, ?_⟩⟩⟩
  · obtain rfl : l = [] := List.length_eq_zero_iff.1 h
    exact congrArg (fun y : List Int => TV.o (.own 5 (.int .u8) y)) (show [(0 : Int)] = Sp.dput [] by decide)
  · rw [hw]
    exact grd_nle (by simp only [W.nmul, W.nadd, W.len, List.length_cons, List.length_nil]; omega) rfl
theorem good35 : GoodC Try.prog ctr35 := by
  refine good_plain (fn := Try.f35) wide good35L ⟨by kernel_rfl, by kernel_rfl, by kernel_rfl, by kernel_rfl⟩ (by kernel_rfl) fun d hd => Blk.un ?_
  obtain ⟨b, n, x⟩ : List Int × Int × Unit := d
  obtain ⟨hb, hlen⟩ : Sp.bytes b ∧ b.length < 9223372036854775807 := hd
  have out1 : ∀ e : Int, e ≠ 0 → Sp.derr b n = e → errV e = ctr35.out (b, n, x) := fun e he h =>
    ctr35.outK_ok (b, n, x) (fun y => errV e = y) ⟨fun _ => by rw [h]; rfl, fun h0 => absurd (h.symm.trans h0) he⟩
  refine Blk.nf (nf35 b n _) ?_
  rw [Sp.tl_eq, Sp.hd_eq hb]
  refine brc_ilt (fun h => out1 1 (by decide) (Sp.derr1 (.inl h))) fun h1 => brc_igt (fun h => out1 1 (by decide) (Sp.derr1 (.inr h))) fun h2 => ?_
  have hn : ¬ (n < 0 ∨ 65536 < n) := by omega
  have e0 : W.ofNat (W.len b) = (b.length : Int) := rfl
  rw [e0]
  refine brc_ieq (fun h => out1 5 (by decide) (Sp.derr5 hn (by omega))) fun h => ?_
  have hbl : ¬ b.length = 0 := by omega
  have htl : (Sp.tl b).length = b.length - 1 := List.length_drop
  refine grd_nlt (by show 0 < b.length; omega) (grd_ile (by omega) ⟨⟨Sp.tl_bytes hb, by omega⟩, fun hg => brc_yes (Sp.ine_true hg) (out1 _ hg (Sp.derrG hn hbl hg)), fun hg => ?_⟩)
  obtain ⟨p1, p2, _, _, _⟩ := Sp.got_put (Sp.tl_bytes hb) hg
  refine ⟨⟨p1, by omega⟩, brc_ine (fun hw => out1 2 (by decide) (Sp.derr2 hn hbl hg hw)) fun hw => ⟨⟨p1, p2⟩, ?_⟩⟩
  exact ctr35.outK_ok (b, n, x) (fun y => TV.tup [.own 2 (.int .i64) (Sp.dgot b n), .c (.a (.x (.int .i64 0)))] = y) ⟨fun h => absurd (Sp.derr0 hn hbl hg hw) h, fun _ => rfl⟩
abbrev I40 := Unit ⊕ List Int ⊕ (List Int × Int × Int × List Int)
def mk40s : I40 → TSt
  | .inl i => mk40a i
  | .inr (.inl i) => mk40b i
  | .inr (.inr i) => mk40c i
def psi40s : I40 → Post → Prop
  | .inl i => psi40a i
  | .inr (.inl i) => psi40b i
  | .inr (.inr i) => psi40c i
def mu40s : I40 → Nat
  | .inl i => 0
  | .inr (.inl i) => i.length
  | .inr (.inr i) => i.1.length - i.2.1.toNat
theorem loop40 : ∀ s Φ, piece40 s Φ → Run Try.prog (.code (.block 0 (blkC (bodyOf Try.f40) 0))) s Φ := by
  intro s Φ hp
  refine run_loopB (n := 59) (ls := [6, 8, 9, 10]) (ks := [57]) (lx := [8]) (kx := [57]) (mk := mk40s) (ψ := psi40s) (knownL_ok wide good40L blk40 noneK) mu40s (by kernel_rfl) (lamOk_free (by kernel_rfl)) ?_ s Φ (cleanT_mono4 (fun s2 h => by
    rcases h with ⟨i, h1, h2⟩ | ⟨i, h1, h2⟩ | ⟨i, h1, h2⟩
    · exact ⟨.inl i, h1, h2⟩
    · exact ⟨.inr (.inl i), h1, h2⟩
    · exact ⟨.inr (.inr i), h1, h2⟩) hp)
  rintro (⟨⟩ | l | ⟨l, i, a, xs⟩) Φ h
  · exact Eq.mpr (nf40a _ mk40s psi40s mu40s Φ _) h
  · obtain ⟨⟨hu, hn, hne⟩, hΦ⟩ := h
    refine Eq.mpr (nf40b _ mk40s psi40s mu40s l Φ _) ?_
    have e1 : W.ofNat (W.len l) = (l.length : Int) := rfl
    have e3 : W.nth l 0 0 = l.getD 0 0 := rfl
    rw [e1, e3]
    refine brc_ilt (fun h => ?_) fun h => by omega
    have hlt : 0 < l.length := by omega
    refine grd_nlt hlt ⟨Sp.inU_getD hu hlt, .inr (.inr (l, 1, W.add .i64 0 (Sp.zag (l.getD 0 0)), [W.add .i64 0 (Sp.zag (l.getD 0 0))])), rfl, ?_, ⟨hu, hn, ?_, ?_, ?_⟩, ?_⟩
    · show l.length - (1 : Int).toNat < l.length
      have : (1 : Int).toNat = 1 := rfl
      omega
    · show (0 : Int) ≤ 1; omega
    · show (1 : Int) ≤ l.length; omega
    · show 1 ≤ (1 : Int).toNat; decide
    · have := Sp.walk_drop (l := l) (i := 0) 0 hlt
      rw [List.drop_zero] at this
      rw [this] at hΦ
      exact hΦ
  · obtain ⟨⟨hu, hn, h0, h1, hx⟩, hΦ⟩ := h
    simp only at hu hn h0 h1 hx hΦ
    obtain ⟨n, rfl⟩ : ∃ n : Nat, i = n := ⟨i.toNat, by omega⟩
    refine Eq.mpr (nf40c _ mk40s psi40s mu40s l n a xs Φ _) ?_
    have e1 : W.ofNat (W.len l) = (l.length : Int) := rfl
    have e2 : W.toNat (n : Int) = n := rfl
    have e3 : W.nth l n 0 = l.getD n 0 := rfl
    have e4 : ((n : Int)).toNat = n := rfl
    rw [e1, e2, e3]
    rw [e4] at hΦ hx
    refine brc_ilt (fun h => ?_) fun h => ?_
    · have hlt : n < l.length := by omega
      rw [Sp.walk_drop a hlt] at hΦ
      have e9 : W.add .i64 (n : Int) 1 = (n : Int) + 1 := W.add_i64 (by omega) (by omega)
      rw [e9]
      refine grd_ile (by omega) (grd_nlt hlt ⟨Sp.inU_getD hu hlt, grd_nle (by simp only [W.nmul, W.nadd, W.len, List.length_cons, List.length_nil]; omega) ⟨.inr (.inr (l, (n : Int) + 1, W.add .i64 a (Sp.zag (l.getD n 0)), xs ++ [W.add .i64 a (Sp.zag (l.getD n 0))])), rfl, ?_, ⟨hu, hn, ?_, ?_, ?_⟩, ?_⟩⟩)
      · show l.length - ((n : Int) + 1).toNat < l.length - n; omega
      · show 0 ≤ (n : Int) + 1; omega
      · show (n : Int) + 1 ≤ l.length; omega
      · show (xs ++ [_]).length ≤ ((n : Int) + 1).toNat
        rw [List.length_append]; simp only [List.length_cons, List.length_nil]; omega
      · show Φ .normal (mkS 59 [(8, TV.h 57)] [(57, .arr false 2 (.int .i64) ((xs ++ [_]) ++ Sp.walk (W.add .i64 a (Sp.zag (l.getD n 0))) (l.drop ((n : Int) + 1).toNat)))])
        have e5 : ((n : Int) + 1).toNat = n + 1 := by omega
        rw [e5]
        exact Eq.mpr (congrArg (fun y : List Int => Φ .normal (mkS 59 [(8, TV.h 57)] [(57, .arr false 2 (.int .i64) y)])) (List.append_assoc xs [W.add .i64 a (Sp.zag (l.getD n 0))] (Sp.walk (W.add .i64 a (Sp.zag (l.getD n 0))) (l.drop (n + 1))))) hΦ
    · have : l.drop n = [] := List.drop_eq_nil_of_le (by omega)
      rw [this, Sp.walk, List.append_nil] at hΦ
      exact hΦ
theorem good40 : GoodC Try.prog ctr40 := by
  refine good_by (blk := blk40) (lab := noneK) (fn := Try.f40) wide good40L ⟨by kernel_rfl, by kernel_rfl, by kernel_rfl, by kernel_rfl⟩ (lamOk_body (by kernel_rfl) (by kernel_rfl) (fun id ψ h => ?_) (fun l rest ψ _ hl => by cases hl)) fun d hd => Blk.un ?_
  · obtain ⟨rfl, rfl⟩ := one_some h
    exact loop40
  · obtain ⟨b, n, x⟩ : List Int × Int × Unit := d
    obtain ⟨hb, hlen⟩ : Sp.bytes b ∧ b.length < 9223372036854775807 := hd
    have out1 : ∀ e : Int, e ≠ 0 → Sp.derr b n = e → errV e = ctr40.out (b, n, x) := fun e he h =>
      ctr40.outK_ok (b, n, x) (fun y => errV e = y) ⟨fun _ => by rw [h]; rfl, fun h0 => absurd (h.symm.trans h0) he⟩
    refine Blk.nf (nf40 b n _) ?_
    rw [Sp.tl_eq, Sp.hd_eq hb]
    refine brc_ilt (fun h => out1 1 (by decide) (Sp.derr1 (.inl h))) fun h1 => brc_igt (fun h => out1 1 (by decide) (Sp.derr1 (.inr h))) fun h2 => ?_
    have hn : ¬ (n < 0 ∨ 65536 < n) := by omega
    have e0 : W.ofNat (W.len b) = (b.length : Int) := rfl
    rw [e0]
    refine brc_ieq (fun h => out1 5 (by decide) (Sp.derr5 hn (by omega))) fun h => ?_
    have hbl : ¬ b.length = 0 := by omega
    have hbp : 0 < W.len b := by show 0 < b.length; omega
    have htl : (Sp.tl b).length = b.length - 1 := List.length_drop
    have one : 1 ≤ 9223372036854775807 := by omega
    have non : ∀ x : Int, List.Mem x [] → 0 ≤ x ∧ x < 18446744073709551616 := fun x hx => by cases hx
    refine grd_ile (by omega) (grd_nlt hbp ⟨⟨Sp.tl_bytes hb, by omega⟩, fun hg => brc_yes (Sp.ine_true hg) (out1 _ hg (Sp.derrG hn hbl hg)), fun hg => ?_⟩)
    obtain ⟨p1, p2, _, _, p5⟩ := Sp.got_put (Sp.tl_bytes hb) hg
    refine ⟨fun hz => ⟨⟨non, one⟩, grd_nlt hbp (brc_ine (fun hw => ?_) fun hw => .inl ⟨(), rfl, ?_⟩)⟩, fun hz => ⟨⟨p1, by omega⟩, grd_nlt hbp (brc_ine (fun hw => out1 2 (by decide) (Sp.derr2 hn hbl hg hw)) fun hw => .inr (.inl ⟨_, rfl, ⟨p1, p2, by omega⟩, ?_⟩))⟩⟩
    · have hgn : Sp.got (Sp.tl b) n (Sp.hd b) = [] := List.length_eq_zero_iff.1 (by omega)
      exact out1 2 (by decide) (Sp.derr2 hn hbl hg (by rw [hgn]; exact hw))
    · have hgn : Sp.got (Sp.tl b) n (Sp.hd b) = [] := List.length_eq_zero_iff.1 (by omega)
      have h0 : Sp.derr b n = 0 := Sp.derr0 hn hbl hg (by rw [hgn]; exact hw)
      exact ctr40.outK_ok (b, n, x) (fun y => TV.tup [.c (.a .nils), .c (.a (.x (.int .i64 0)))] = y) ⟨fun h => absurd h0 h, fun _ => ⟨fun _ => rfl, fun h => absurd hz h⟩⟩
    · have h0 : Sp.derr b n = 0 := Sp.derr0 hn hbl hg hw
      exact ctr40.outK_ok (b, n, x) (fun y => TV.tup [.own 2 (.int .i64) (Sp.dgot b n), .c (.a (.x (.int .i64 0)))] = y) ⟨fun h => absurd h0 h, fun _ => ⟨fun h => absurd h hz, fun _ => rfl⟩⟩
end Go.Proofs.Ytijahjkcbphmcaa
