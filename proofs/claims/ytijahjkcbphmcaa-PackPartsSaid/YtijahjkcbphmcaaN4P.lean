/-
  Texts of a proof over the translated program: N4P.
-/
import Derived.Test.YtijahjkcbphmcaaN4PNf
set_option linter.unusedVariables false
set_option linter.unusedSimpArgs false
namespace Sp
open Go Go.AbsM
theorem bits8_len (x : Int) : (bits8 x).length = 8 := by simp [bits8]
theorem bitsFrom_end (x : Int) : bitsFrom x 8 = [] := List.drop_eq_nil_of_le (by rw [bits8_len]; decide)
theorem bitsFrom_zero (x : Int) : bitsFrom x 0 = bits8 x := rfl
theorem bitsFrom_step {x : Int} {k : Nat} (h : k < 8) : bitsFrom x (k : Int) = (((x.toNat >>> k) % 2 : Nat) : Int) :: bitsFrom x ((k + 1 : Nat) : Int) := by
  unfold bitsFrom
  rw [Int.toNat_natCast, Int.toNat_natCast, List.drop_eq_getElem_cons (by rw [bits8_len]; exact h)]
  congr 1
  simp [bits8]
theorem bitsOf_app : ∀ (a b : List Int), bitsOf (a ++ b) = bitsOf a ++ bitsOf b
  | [], b => rfl
  | x :: a, b => by rw [List.cons_append, bitsOf, bitsOf_app a b, bitsOf, List.append_assoc]
theorem bitsOf_len : ∀ (b : List Int), (bitsOf b).length = 8 * b.length
  | [] => rfl
  | x :: r => by rw [bitsOf, List.length_append, bits8_len, bitsOf_len r, List.length_cons]; omega
theorem take_one {l : List Int} {i : Nat} (h : i < l.length) : l.take (i + 1) = l.take i ++ [l.getD i 0] := by
  rw [List.take_add_one, List.getElem?_eq_getElem h, List.getD_eq_getElem?_getD, List.getElem?_eq_getElem h]; rfl
theorem toN_step {l : List Int} {i : Nat} (h : i < l.length) : toN l (i + 1) = toN l i ++ [l.getD i 0] := take_one h
theorem toB_step {l : List Int} {i : Nat} (h : i < l.length) : toB l (i + 1) = toB l i ++ bits8 (l.getD i 0) := by
  unfold toB; rw [take_one h, bitsOf_app]
  show bitsOf (l.take i) ++ (bits8 (l.getD i 0) ++ []) = _
  rw [List.append_nil]
theorem the_bit {b : List Int} {i k : Nat} (hb : bytes b) (hk : k ≤ 8) : W.wrap .u64 (W.and .u8 (W.shr .u8 (W.nth b i 0) ((k : Nat) : Int)) 1) = ((((b.getD i 0).toNat >>> k) % 2 : Nat) : Int) := by
  have hg := bytes_get hb i
  have e1 : W.nth b i 0 = (((b.getD i 0).toNat : Nat) : Int) := by show b.getD i 0 = _; omega
  have hsh : (b.getD i 0).toNat >>> k < 256 := by
    rw [Nat.shiftRight_eq_div_pow]; exact Nat.lt_of_le_of_lt (Nat.div_le_self _ _) (by omega)
  rw [e1, shr_nat (k := .u8) (by show k ≤ 8; exact hk)]
  have := and_u8 (x := (b.getD i 0).toNat >>> k) (y := 1) hsh (by decide)
  rw [Nat.and_one_is_mod] at this
  have e2 : W.and .u8 (((b.getD i 0).toNat >>> k : Nat) : Int) 1 = ((((b.getD i 0).toNat >>> k) % 2 : Nat) : Int) := this
  have hm := Nat.mod_lt ((b.getD i 0).toNat >>> k) (show 0 < 2 by decide)
  rw [e2, W.wu64_in (Int.natCast_nonneg _) (by omega)]
theorem pack8 : ∀ {b : List Int}, bytes b → packN 8 b = valOf b
  | [], _ => rfl
  | x :: r, h => by
    have hx := h x List.mem_cons_self
    rw [packN, valOf, pack8 fun y hy => h y (List.mem_cons_of_mem _ hy), Nat.mod_eq_of_lt (by omega)]
theorem pack_bits (x : Nat) (h : x < 256) : packN 1 ((List.range 8).map fun k => (((x >>> k) % 2 : Nat) : Int)) = x := by
  have : ∀ x : Fin 256, packN 1 ((List.range 8).map fun k => (((x.val >>> k) % 2 : Nat) : Int)) = x.val := by decide +kernel
  exact this ⟨x, h⟩
theorem pack1 : ∀ {b : List Int}, bytes b → packN 1 (bitsOf b) = valOf b
  | [], _ => rfl
  | x :: r, h => by
    have hx := h x List.mem_cons_self
    rw [bitsOf, packN_app, pack1 fun y hy => h y (List.mem_cons_of_mem _ hy), valOf, bits8_len, Nat.mod_eq_of_lt (by omega)]
    have := pack_bits x.toNat (by omega)
    rw [show packN 1 (bits8 x) = x.toNat from this]
theorem bitsOf_mem : ∀ {b : List Int} {y : Int}, y ∈ bitsOf b → 0 ≤ y ∧ y.toNat < 2 ^ 1
  | [], y, h => by cases h
  | x :: r, y, h => by
    rcases List.mem_append.1 h with h | h
    · simp only [bits8, List.mem_map] at h
      obtain ⟨k, _, rfl⟩ := h
      exact ⟨Int.natCast_nonneg _, by rw [Int.toNat_natCast]; exact Nat.mod_lt _ (by decide)⟩
    · exact bitsOf_mem h
theorem width_of {l : List Int} {w : Nat} (h : ∀ x, x ∈ l → x.toNat < 2 ^ w) : width l ≤ (w : Int) := by
  have := bitLen_le.2 (orAll_lt_of h)
  unfold width; omega
theorem parts_ok {b : List Int} (hb : bytes b) (hl : b.length ≤ 200) : inU b ∧ err b 8 = 0 ∧ outP b 8 = b ∧ inU (bitsOf b) ∧ err (bitsOf b) 1 = 0 ∧ outP (bitsOf b) 1 = b := by
  have w1 : width b ≤ ((8 : Nat) : Int) := width_of fun x hx => by have := hb x hx; show x.toNat < 256; omega
  have w2 : width (bitsOf b) ≤ ((1 : Nat) : Int) := width_of fun x hx => (bitsOf_mem hx).2
  have h1 := bitsOf_len b
  refine ⟨fun x hx => by have := hb x hx; omega, err_is (by decide) (by decide) w1 (by omega), ?_, fun x hx => ?_, err_is (by decide) (by decide) w2 (by omega), ?_⟩
  · unfold outP
    have e : (size (b.length : Int) 8).toNat = b.length := by rw [size_val ⟨by omega, by omega, by decide, by decide⟩]; omega
    rw [e]
    show ofVal b.length (packN 8 b) = b
    rw [pack8 hb, ofVal_valOf b hb]
  · have := bitsOf_mem hx
    have h2 : (2 : Nat) ^ 1 = 2 := rfl
    omega
  · unfold outP
    have e : (size ((bitsOf b).length : Int) 1).toNat = b.length := by rw [size_val ⟨by omega, by omega, by decide, by decide⟩, h1]; omega
    rw [e]
    show ofVal b.length (packN 1 (bitsOf b)) = b
    rw [pack1 hb, ofVal_valOf b hb]
end Sp
namespace Go.Proofs.Ytijahjkcbphmcaa
open Go.AbsM
theorem goodPt : Goods Try.prog partL := .cons good16 (.cons good17 .nil)
theorem known5' : KnownOk Try.prog (envL partL) (knownL partL blk5 noneK) := knownL_ok wide goodPt blk5 noneK
abbrev I5 := (List Int × List Int) ⊕ (List Int × Int × Int × List Int × List Int)
def mk5s : I5 → TSt
  | .inl i => mk5i i
  | .inr i => mk5j i
def psi5s : I5 → Post → Prop
  | .inl i => psi5i i
  | .inr i => psi5j i
def mu5s : I5 → Nat
  | .inl i => 8
  | .inr i => (8 - i.2.2.1).toNat
theorem inner5 : ∀ s Φ, piece5 s Φ → Run Try.prog (.code (.block 2 (blkC (bodyOf Try.f5) 2))) s Φ := by
  intro s Φ hp
  refine run_loopB (n := 74) (ls := [0, 3, 4, 5, 6]) (ks := [29, 45]) (lx := [0, 3, 4, 5]) (kx := [29, 45]) (mk := mk5s) (ψ := psi5s) known5' mu5s (by kernel_rfl) (lamOk_free (by kernel_rfl)) ?_ s Φ (cleanT_mono4 (fun s2 h => by
    rcases h with ⟨i, h1, h2⟩ | ⟨i, h1, h2⟩
    · exact ⟨.inl i, h1, h2⟩
    · exact ⟨.inr i, h1, h2⟩) hp)
  rintro (⟨b, xs⟩ | ⟨b, i, k, xs, ys⟩) Φ ⟨hpre, hΦ⟩
  · obtain ⟨hb, hl, hne⟩ := hpre
    simp only at hb hl hne hΦ
    refine Eq.mpr (nf5i _ mk5s psi5s mu5s b xs Φ _) ?_
    have hbit := Sp.the_bit (i := 0) (k := 0) hb (by decide)
    have hf := Sp.bitsFrom_step (x := Sp.at' b 0) (k := 0) (by decide)
    refine grd_nlt (by show 0 < b.length; omega) ⟨.inr (b, 0, 1, xs, [W.wrap .u64 (W.and .u8 (W.shr .u8 (W.nth b 0 0) 0) 1)]), rfl, ?_, ⟨hb, hl, Int.le_refl _, ?_, ?_, ?_, ?_⟩, ?_⟩
    · show (8 - (1 : Int)).toNat < 8; decide
    · show (0 : Int) < b.length; omega
    · show (0 : Int) ≤ 1; decide
    · show (1 : Int) ≤ 8; decide
    · show ((1 : Nat) : Int) ≤ 1600 + 1; omega
    · have e : [W.wrap .u64 (W.and .u8 (W.shr .u8 (W.nth b 0 0) 0) 1)] ++ Sp.bitsFrom (Sp.at' b 0) 1 = Sp.bitsFrom (Sp.at' b 0) 0 := by
        have h1 : W.wrap .u64 (W.and .u8 (W.shr .u8 (W.nth b 0 0) 0) 1) = ((((b.getD 0 0).toNat >>> 0) % 2 : Nat) : Int) := hbit
        rw [h1]
        exact hf.symm
      show Φ .normal (mkS 74 [(0, TV.l 5 (.int .u8) b), (3, TV.h 29), (4, TV.h 45), (5, TV.int .i64 0)] [(29, .arr false 39 (.int .u64) xs), (45, .arr false 39 (.int .u64) ([W.wrap .u64 (W.and .u8 (W.shr .u8 (W.nth b 0 0) 0) 1)] ++ Sp.bitsFrom (Sp.at' b 0) 1))])
      rw [e]; exact hΦ
  · obtain ⟨hb, hl, i0, i1, k0, k1, hy⟩ := hpre
    simp only at hb hl i0 i1 k0 k1 hy hΦ
    obtain ⟨n, rfl⟩ : ∃ n : Nat, i = n := ⟨i.toNat, by omega⟩
    obtain ⟨K, rfl⟩ : ∃ K : Nat, k = K := ⟨k.toNat, by omega⟩
    refine Eq.mpr (nf5j _ mk5s psi5s mu5s b n K xs ys Φ _) ?_
    have e1 : W.toNat (n : Int) = n := rfl
    have e2 : W.wrap .u64 (K : Int) = (K : Int) := W.wu64_in (by omega) (by omega)
    rw [e1, e2]
    refine brc_ilt (fun h => ?_) fun h => ?_
    · have hbit := Sp.the_bit (i := n) (k := K) hb (by omega)
      have hf := Sp.bitsFrom_step (x := Sp.at' b (n : Int)) (k := K) (by omega)
      have e3 : W.add .i64 (K : Int) 1 = ((K + 1 : Nat) : Int) := by rw [W.add_i64 (by omega) (by omega)]; rfl
      rw [hbit, e3]
      refine grd_ile (by omega) (grd_nlt (by show n < b.length; omega) (grd_ile (by omega) (grd_nle (by simp only [W.nmul, W.nadd, W.len, List.length_cons, List.length_nil]; omega) ⟨.inr (b, (n : Int), ((K + 1 : Nat) : Int), xs, ys ++ [((((b.getD n 0).toNat >>> K) % 2 : Nat) : Int)]), rfl, ?_, ⟨hb, hl, i0, i1, ?_, ?_, ?_⟩, ?_⟩)))
      · show (8 - ((K + 1 : Nat) : Int)).toNat < (8 - (K : Int)).toNat; omega
      · show 0 ≤ ((K + 1 : Nat) : Int); omega
      · show ((K + 1 : Nat) : Int) ≤ 8; omega
      · show (((ys ++ [_]).length : Nat) : Int) ≤ 1600 + ((K + 1 : Nat) : Int)
        rw [List.length_append]; simp only [List.length_cons, List.length_nil]; omega
      · rw [hf] at hΦ
        exact Eq.mpr (congrArg (fun y : List Int => Φ .normal (mkS 74 [(0, TV.l 5 (.int .u8) b), (3, TV.h 29), (4, TV.h 45), (5, TV.int .i64 (n : Int))] [(29, .arr false 39 (.int .u64) xs), (45, .arr false 39 (.int .u64) y)])) (List.append_assoc ys [((((b.getD n 0).toNat >>> K) % 2 : Nat) : Int)] (Sp.bitsFrom (Sp.at' b (n : Int)) ((K + 1 : Nat) : Int)))) hΦ
    · have : K = 8 := by omega
      subst this
      have e3 : Sp.bitsFrom (Sp.at' b (n : Int)) ((8 : Nat) : Int) = [] := Sp.bitsFrom_end _
      rw [e3, List.append_nil] at hΦ
      exact hΦ
def law5 : TCtr := lawC 5 [.l 5 (.int .u8)] (fun (d : List Int × Unit) => Sp.bytes d.1)
def mu5 (i : List Int × Nat) : Nat := i.1.length - i.2
theorem outer5 : ∀ s Φ, loopP 74 [0, 3, 4, 5] [29, 45] mk5 psi5 s Φ → Run Try.prog (.code (.block 0 (blkC (bodyOf Try.f5) 0))) s Φ := by
  refine run_loopB (lx := [0, 3, 4]) (kx := [29, 45]) known5' mu5 (by kernel_rfl) ?_ ?_
  · refine lamOk_of (fun id c' hm ψ hψ => ?_) (fun c' hm => ?_)
    · have hids : (blocksOf (loopOf (blkC (bodyOf Try.f5) 0))).map (·.1) = [1, 2, 3] := by kernel_rfl
      have hc : c' = blkC (loopOf (blkC (bodyOf Try.f5) 0)) id := findB_mem (by rw [hids]; rfl) hm
      have hid : id ∈ [1, 2, 3] := by rw [← hids]; exact List.mem_map.2 ⟨_, hm, rfl⟩
      simp only [List.mem_cons, List.not_mem_nil, or_false] at hid
      rcases hid with rfl | rfl | rfl
      · cases hψ
      · cases hψ
        rw [hc]
        have : blkC (loopOf (blkC (bodyOf Try.f5) 0)) 2 = blkC (bodyOf Try.f5) 2 := by kernel_rfl
        rw [this]; exact inner5
      · cases hψ
    · have : scopesOf (loopOf (blkC (bodyOf Try.f5) 0)) = [] := by kernel_rfl
      rw [this] at hm; cases hm
  rintro ⟨b, i⟩ Φ ⟨⟨hb, hl, hi⟩, hz, hnz⟩
  simp only at hb hl hi hz hnz
  have wr : ∀ n : Nat, W.wrap .u64 (W.nth b n 0) = b.getD n 0 := fun n => by
    have := Sp.bytes_get hb n
    exact W.wu64_in (by show 0 ≤ b.getD n 0; omega) (by show b.getD n 0 < _; omega)
  cases i with
  | zero =>
    refine Eq.mpr (nf5a _ mk5 psi5 mu5 b Φ _) ?_
    have e1 : W.ofNat (W.len b) = (b.length : Int) := rfl
    rw [e1, wr 0]
    refine brc_ilt (fun h => ?_) fun h => hz (by omega)
    have hlt : 0 < b.length := by omega
    refine grd_nlt hlt (.inl ⟨(b, [b.getD 0 0]), rfl, ⟨hb, hl, by show b.length ≠ 0; omega⟩, (b, 1), ?_, ?_, ⟨hb, hl, hlt⟩, hz, hnz⟩)
    · have e2 : Sp.toN b 1 = [b.getD 0 0] := Sp.toN_step hlt
      have e3 : Sp.toB b 1 = Sp.bitsFrom (Sp.at' b 0) 0 := Sp.toB_step hlt
      show _ = mk5b (b, ((1 : Nat) : Int), Sp.toN b 1, Sp.toB b 1)
      rw [e2, e3]; rfl
    · show b.length - 1 < b.length - 0; omega
  | succ i =>
    have hx : (Sp.toN b (i + 1)).length = i + 1 := by unfold Sp.toN; rw [List.length_take]; omega
    have hyl : (Sp.toB b (i + 1)).length = 8 * (i + 1) := by unfold Sp.toB; rw [Sp.bitsOf_len, List.length_take]; omega
    refine Eq.mpr (nf5b _ mk5 psi5 mu5 b ((i + 1 : Nat) : Int) (Sp.toN b (i + 1)) (Sp.toB b (i + 1)) Φ _) ?_
    have e1 : W.ofNat (W.len b) = (b.length : Int) := rfl
    have e2 : W.toNat ((i + 1 : Nat) : Int) = i + 1 := rfl
    rw [e1, e2, wr (i + 1)]
    refine brc_ilt (fun h => ?_) fun h => ?_
    · have hlt : i + 1 < b.length := by omega
      have e3 : W.add .i64 ((i + 1 : Nat) : Int) 1 = ((i + 2 : Nat) : Int) := by rw [W.add_i64 (by omega) (by omega)]; omega
      refine grd_ile (by omega) (grd_nlt hlt (grd_nle (by simp only [W.nmul, W.nadd, W.len, List.length_cons, List.length_nil]; omega) (.inr ⟨(b, ((i + 1 : Nat) : Int), 0, Sp.toN b (i + 1) ++ [b.getD (i + 1) 0], Sp.toB b (i + 1)), rfl, ⟨hb, hl, ?_, h, Int.le_refl _, ?_, ?_⟩, (b, i + 2), ?_, ?_, ⟨hb, hl, hlt⟩, hz, hnz⟩)))
      · show 0 ≤ ((i + 1 : Nat) : Int); omega
      · show (0 : Int) ≤ 8; decide
      · show (((Sp.toB b (i + 1)).length : Nat) : Int) ≤ 1600 + 0; omega
      · have e4 : Sp.toN b (i + 2) = Sp.toN b (i + 1) ++ [b.getD (i + 1) 0] := Sp.toN_step hlt
        have e5 : Sp.toB b (i + 2) = Sp.toB b (i + 1) ++ Sp.bitsFrom (Sp.at' b ((i + 1 : Nat) : Int)) 0 := Sp.toB_step hlt
        show _ = mk5b (b, ((i + 2 : Nat) : Int), Sp.toN b (i + 2), Sp.toB b (i + 2))
        rw [e4, e5, ← e3]; rfl
      · show b.length - (i + 2) < b.length - (i + 1); omega
    · have hi2 : i + 1 = b.length := by omega
      have e4 : Sp.toN b (i + 1) = b := List.take_of_length_le (by omega)
      have e5 : Sp.toB b (i + 1) = Sp.bitsOf b := by unfold Sp.toB; rw [List.take_of_length_le (by omega)]
      rw [e4, e5]; exact hnz (by omega)
theorem good5 : GoodC Try.prog law5 := by
  refine good_by (blk := blk5) (lab := noneK) (fn := Try.f5) wide goodPt ⟨by kernel_rfl, by kernel_rfl, by kernel_rfl, by kernel_rfl⟩ (lamOk_body (by kernel_rfl) (by kernel_rfl) (fun id ψ h => ?_) (fun l rest ψ _ hl => by cases hl)) fun d hd => Blk.un ?_
  · have h : blk5 id = some ψ := h
    unfold blk5 at h
    split at h
    · rename_i hb
      have := Nat.eq_of_beq_eq_true hb
      subst this
      cases h; exact outer5
    · obtain ⟨rfl, rfl⟩ := one_some h
      exact inner5
  · obtain ⟨b, x⟩ : List Int × Unit := d
    have hb : Sp.bytes b := hd
    refine Blk.nf (nf5 b _) ⟨trivial, ?_⟩
    have e1 : W.ofNat (W.len b) = (b.length : Int) := rfl
    rw [e1]
    refine brc_igt (fun _ => rfl) fun hl => ⟨(b, 0), rfl, ⟨hb, by show b.length ≤ 200; omega, Nat.zero_le _⟩, fun h => ?_, fun h => ?_⟩
    · have h : b.length = 0 := h
      obtain rfl : b = [] := List.length_eq_zero_iff.1 h
      have one : 1 ≤ 9223372036854775807 := by omega
      have non : ∀ x : Int, List.Mem x [] → 0 ≤ x ∧ x < 18446744073709551616 := fun x hx => by cases hx
      exact ⟨⟨non, one⟩, fun h => absurd rfl h, fun _ => ⟨⟨non, one⟩, fun h => absurd rfl h, fun _ => brc_yes rfl rfl⟩⟩
    · obtain ⟨p1, p2, p3, p4, p5, p6⟩ := Sp.parts_ok hb (by omega)
      have p2 : Sp.err b (Int.ofNat 8) = 0 := p2
      have p3 : Sp.outP b (Int.ofNat 8) = b := p3
      have p5 : Sp.err (Sp.bitsOf b) (Int.ofNat 1) = 0 := p5
      have p6 : Sp.outP (Sp.bitsOf b) (Int.ofNat 1) = b := p6
      have hbl := Sp.bitsOf_len b
      refine ⟨⟨p1, by show b.length < _; omega⟩, fun h => absurd p2 h, fun _ => ⟨⟨p4, by show (Sp.bitsOf b).length < _; omega⟩, fun h => absurd p5 h, fun _ => brc_yes ?_ ?_⟩⟩
      · show W.seq (W.b8s (Sp.outP b (Int.ofNat 8))) (W.b8s b) = true
        rw [p3]; exact Sp.seq_same _
      · show TV.bool (W.seq (W.b8s (Sp.outP (Sp.bitsOf b) (Int.ofNat 1))) (W.b8s b)) = TV.bool true
        rw [p6, Sp.seq_same]
end Go.Proofs.Ytijahjkcbphmcaa
