/-
  Texts of a proof over the translated program: NeExt4.
-/
import Derived.Test.YtpohkoijbocpcaaNeExt4Nf
set_option linter.unusedVariables false
namespace Sp
open Go Go.AbsM
theorem tk_take {e : Int} {u : List Rm} {c : Nat} (h : c < u.length) (x : Nat) : tk e (u.take (c + 1)) x = (tk e (u.take c) x || decide (check (W.nth u c ((0 : Int), (0 : Int), ())).1 (W.nth u c ((0 : Int), (0 : Int), ())).2.1 e = 0 ∧ (W.nth u c ((0 : Int), (0 : Int), ())).1 ≤ x ∧ (x : Int) < (W.nth u c ((0 : Int), (0 : Int), ())).1 + (W.nth u c ((0 : Int), (0 : Int), ())).2.1)) := by
  rw [take_succ h, tk_app]
theorem tk_mono {e : Int} {u : List Rm} {c x : Nat} (h : tk e (u.take c) x = true) : tk e u x = true := by
  unfold tk at h ⊢
  rw [List.any_eq_true] at h ⊢
  obtain ⟨v, h1, h2⟩ := h
  exact ⟨v, List.mem_of_mem_take h1, h2⟩
theorem snoc_glue {j : Nat} {l : List Rm} {v : Rm} (h : v.1 + v.2.1 = j) : snoc j (l ++ [v]) = l ++ [(v.1, v.2.1 + 1, ())] := by
  unfold snoc
  simp [h]
theorem snoc_add {j : Nat} {l : List Rm} {v : Rm} (h : v.1 + v.2.1 ≠ j) : snoc j (l ++ [v]) = l ++ [v] ++ [((j : Int), 1, ())] := by
  unfold snoc
  simp [h]
theorem nth_last (l : List Rm) (v : Rm) : W.nth (l ++ [v]) l.length ((0 : Int), (0 : Int), ()) = v := by simp [W.nth]
theorem upd_last (l : List Rm) (v x : Rm) : W.upd (l ++ [v]) l.length x = l ++ [x] := by simp [W.upd]
theorem sameR_yes {a b : List Rm} (h : a = b) : sameR a b = true := decide_eq_true h
theorem sameR_no {a b : List Rm} (h : a ≠ b) : sameR a b = false := decide_eq_false h
end Sp
namespace Go.Proofs.Ytpohkoijbocpcaa
open Go.AbsM
attribute [local irreducible] Sp.mark Sp.fr Sp.frees Sp.tk
theorem good16 : GoodC Try.prog ctr16 := by
  refine good_loop (fn := Try.f16) [4] [] (fun i : I16 => (i.1.length - i.2.2).toNat) wide (.cons good12 .nil) ⟨by kernel_rfl, by kernel_rfl, by kernel_rfl, by kernel_rfl⟩ (by kernel_rfl) (by kernel_rfl) (by kernel_rfl) (by kernel_rfl) (n := 27) (ls := [0, 1, 5]) (ks := []) (mk := mk16) (ψ := psi16) (id := 0) ?_ ?_
  · rintro ⟨a, b, i⟩ Φ ⟨⟨hs, hl, i0, i1, ht⟩, hy, hn⟩
    simp only at hs hl i0 i1 ht hy hn
    obtain ⟨c, rfl⟩ : ∃ c : Nat, i = c := ⟨i.toNat, by omega⟩
    rw [Int.toNat_natCast] at ht
    refine Eq.mpr (nf16s _ _ _ _ a b c Φ _) ?_
    refine brc_ilt (fun h => ?_) fun h => ?_
    · have h : c < a.length := by have : ((c : Nat) : Int) < ((a.length : Nat) : Int) := h; omega
      have ha := Sp.take_succ h
      have hb := Sp.take_succ (l := b) (k := c) (by omega)
      have e1 : W.nth a (W.toNat (c : Int)) ((0 : Int), (0 : Int), PUnit.unit) = W.nth a c ((0 : Int), (0 : Int), ()) := rfl
      have e2 : W.nth b (W.toNat (c : Int)) ((0 : Int), (0 : Int), PUnit.unit) = W.nth b c ((0 : Int), (0 : Int), ()) := rfl
      rw [e1, e2, W.add_i64 (a := (c : Int)) (b := 1) (by omega) (by omega)]
      have hne : W.nth a c ((0 : Int), (0 : Int), ()) ≠ W.nth b c ((0 : Int), (0 : Int), ()) → a ≠ b := fun h1 h2 => h1 (by rw [h2])
      generalize W.nth a c ((0 : Int), (0 : Int), ()) = x at ha hne ⊢
      generalize W.nth b c ((0 : Int), (0 : Int), ()) = y at hb hne ⊢
      obtain ⟨x1, x2, x3⟩ := x
      obtain ⟨y1, y2, y3⟩ := y
      refine grd_ile (by omega) (grd_nlt h ⟨trivial, grd_ile (by omega) (grd_nlt (by show c < b.length; omega) (brc_ieq (fun q1 => brc_ieq (fun q2 => ?_) fun q2 => hn (hne fun h => q2 ?_)) fun q1 => hn (hne fun h => q1 ?_)))⟩)
      · have q1 : x1 = y1 := q1
        have q2 : x2 = y2 := q2
        subst q1; subst q2
        refine ⟨(a, b, (c : Int) + 1), rfl, ?_, ⟨hs, hl, ?_, ?_, ?_⟩, hy, hn⟩
        · show ((a.length : Int) - ((c : Int) + 1)).toNat < ((a.length : Int) - (c : Int)).toNat; omega
        · show 0 ≤ (c : Int) + 1; omega
        · show (c : Int) + 1 ≤ (a.length : Int); omega
        · show a.take ((c : Int) + 1).toNat = b.take ((c : Int) + 1).toNat
          rw [show ((c : Int) + 1).toNat = c + 1 by omega, ha, hb, ht]
      · rw [h]
      · rw [h]
    · have h : (a.length : Int) ≤ (c : Int) := h
      rw [List.take_of_length_le (by omega), List.take_of_length_le (by omega)] at ht
      exact hy ht
  · intro d hd
    obtain ⟨a, b, x⟩ : List Sp.Rm × List Sp.Rm × Unit := d
    have hd : a.length < 1000000 := hd
    refine Eq.mpr (nf16 a b _) ?_
    refine brc_ine (fun h => ?_) fun h => ⟨(a, b, 0), rfl, ⟨hd, ?_, Int.le_refl _, ?_, ?_⟩, fun h2 => ?_, fun h2 => ?_⟩
    · have h : (a.length : Int) ≠ (b.length : Int) := h
      exact congrArg TV.bool (Sp.sameR_no (fun h2 : a = b => h (by rw [h2]))).symm
    · have h : (a.length : Int) = (b.length : Int) := h
      show a.length = b.length; omega
    · show (0 : Int) ≤ (a.length : Int); omega
    · show a.take 0 = b.take 0; simp
    · exact congrArg TV.bool (Sp.sameR_yes h2).symm
    · exact congrArg TV.bool (Sp.sameR_no h2).symm

abbrev J18 := List Sp.Rm ⊕ (List Sp.Rm × Int × List Sp.Rm)
def mkj18 : J18 → TSt
  | .inl i => mk18n i
  | .inr i => mk18o i
def psij18 : J18 → Post → Prop
  | .inl i => psi18n i
  | .inr i => psi18o i
def muj18 : J18 → Nat
  | .inl i => i.length
  | .inr i => (i.1.length - i.2.1).toNat
theorem good18L : Goods Try.prog [ctr12] := .cons good12 .nil
theorem known18 : KnownOk Try.prog (envL [ctr12]) (knownL [ctr12] blk18 noneK) := knownL_ok wide good18L _ _
theorem loop18 : ∀ s Φ, piece18 s Φ → Run Try.prog (.code (.block 0 (blkC (bodyOf Try.f18) 0))) s Φ := by
  intro s Φ hp
  have hp : loopP 20 [0, 3, 4] [18] mkj18 psij18 s Φ := cleanT_mono (fun s2 h => by
    rcases h with ⟨i, h1, h2⟩ | ⟨i, h1, h2⟩
    · exact ⟨.inl i, h1, h2⟩
    · exact ⟨.inr i, h1, h2⟩) hp
  refine run_loopB (lx := [3]) (kx := [18]) known18 muj18 (by kernel_rfl) (lamOk_free (by kernel_rfl)) ?_ s Φ hp
  rintro (a | ⟨a, i, o⟩) Φ h
  · obtain ⟨hl, h0, h1⟩ := h
    refine Eq.mpr (nf18a _ mkj18 psij18 muj18 a Φ _) ?_
    refine brc_ilt (fun h => ?_) fun h => h0 ?_
    · have h : 0 < a.length := by have : (0 : Int) < ((a.length : Nat) : Int) := h; omega
      have ht := Sp.take_succ h
      rw [List.take_zero, List.nil_append] at ht
      have e1 : W.nth a 0 ((0 : Int), (0 : Int), PUnit.unit) = W.nth a 0 ((0 : Int), (0 : Int), ()) := rfl
      rw [e1]
      generalize W.nth a 0 ((0 : Int), (0 : Int), ()) = r at ht ⊢
      obtain ⟨x, y, z⟩ := r
      refine grd_nlt h ⟨trivial, .inr (a, 1, [(x, y, z)]), rfl, ?_, ⟨hl, by show (0 : Int) ≤ 1; omega, ?_, ?_⟩, h1 fun h2 => ?_⟩
      · show ((a.length : Int) - 1).toNat < a.length; omega
      · show (1 : Int) ≤ (a.length : Int); omega
      · exact ht.symm
      · rw [h2] at h; simp at h
    · have h : ((a.length : Nat) : Int) ≤ 0 := h
      exact List.eq_nil_of_length_eq_zero (by omega)
  · obtain ⟨⟨hl, i0, i1, ho⟩, hΦ⟩ := h
    simp only at hl i0 i1 ho hΦ
    obtain ⟨c, rfl⟩ : ∃ c : Nat, i = c := ⟨i.toNat, by omega⟩
    rw [Int.toNat_natCast] at ho
    refine Eq.mpr (nf18b _ mkj18 psij18 muj18 a c o Φ _) ?_
    refine brc_ilt (fun h => ?_) fun h => ?_
    · have h : c < a.length := by have : ((c : Nat) : Int) < ((a.length : Nat) : Int) := h; omega
      have ht := Sp.take_succ h
      have e1 : W.nth a (W.toNat (c : Int)) ((0 : Int), (0 : Int), PUnit.unit) = W.nth a c ((0 : Int), (0 : Int), ()) := rfl
      rw [e1, W.add_i64 (a := (c : Int)) (b := 1) (by omega) (by omega)]
      generalize W.nth a c ((0 : Int), (0 : Int), ()) = r at ht ⊢
      obtain ⟨x, y, z⟩ := r
      have hol : o.length ≤ c := by rw [ho]; simp; omega
      refine grd_ile (by omega) (grd_nlt h ⟨trivial, grd_nle (by show (o.length + 1) * 16 ≤ 140737488355328; omega) ⟨.inr (a, (c : Int) + 1, o ++ [(x, y, z)]), rfl, ?_, ⟨hl, ?_, ?_, ?_⟩, hΦ⟩⟩)
      · show ((a.length : Int) - ((c : Int) + 1)).toNat < ((a.length : Int) - (c : Int)).toNat; omega
      · show 0 ≤ (c : Int) + 1; omega
      · show (c : Int) + 1 ≤ (a.length : Int); omega
      · show o ++ [(x, y, z)] = a.take ((c : Int) + 1).toNat
        rw [show ((c : Int) + 1).toNat = c + 1 by omega, ht, ho]
    · have h : (a.length : Int) ≤ (c : Int) := h
      rw [List.take_of_length_le (by omega)] at ho
      rw [ho]; exact hΦ
theorem blk18_some {id : Nat} {ψ : Piece} (h : blk18 id = some ψ) : ∀ s Φ, ψ s Φ → Run Try.prog (.code (.block id (blkC (bodyOf Try.f18) id))) s Φ := by
  obtain ⟨rfl, rfl⟩ := one_some h
  exact loop18
theorem good18n : GoodC Try.prog ctr18n := by
  refine good_byDB (c := ctr18n) (DL := []) (blk := blk18) (lab := noneK) (fn := Try.f18) wide good18L (fun c h => by cases h) ⟨by kernel_rfl, by kernel_rfl, by kernel_rfl, by kernel_rfl⟩ (lamOk_body (by kernel_rfl) (by kernel_rfl) (fun id ψ h => blk18_some h) (fun l rest ψ _ hl => by cases hl)) (fun d hd => ?_)
  obtain ⟨a, x⟩ : List Sp.Rm × Unit := d
  have hd : a = [] := hd
  subst hd
  exact Blk.nf (nf18 [] _) (.inl ⟨[], rfl, by decide, fun _ => rfl, fun h => absurd rfl h⟩)
theorem good18o : GoodC Try.prog ctr18o := by
  refine good_byDB (c := ctr18o) (DL := []) (blk := blk18) (lab := noneK) (fn := Try.f18) wide good18L (fun c h => by cases h) ⟨by kernel_rfl, by kernel_rfl, by kernel_rfl, by kernel_rfl⟩ (lamOk_body (by kernel_rfl) (by kernel_rfl) (fun id ψ h => blk18_some h) (fun l rest ψ _ hl => by cases hl)) (fun d hd => ?_)
  obtain ⟨a, x⟩ : List Sp.Rm × Unit := d
  obtain ⟨hd, hl⟩ : a ≠ [] ∧ a.length < 1000000 := hd
  exact Blk.nf (nf18 a _) (.inl ⟨a, rfl, hl, fun h => absurd h hd, fun h => rfl⟩)

abbrev JJ17b := J17n ⊕ J17
def mkj17b : JJ17b → TSt
  | .inl i => mk17bn i
  | .inr i => mk17bo i
def psij17b : JJ17b → Post → Prop
  | .inl i => psi17bn i
  | .inr i => psi17bo i
def muj17b : JJ17b → Nat
  | .inl i => (i.1.2.1.length - i.2.2).toNat
  | .inr i => (i.1.2.1.length - i.2.2).toNat
theorem good17L : Goods Try.prog [ctr11] := .cons good11 .nil
theorem known17 : KnownOk Try.prog (envL [ctr11]) (knownL [ctr11] blk17 noneK) := knownL_ok wide good17L _ _

theorem step17bn (e : Int) (u : List Sp.Rm) (i : Int) (o : List Sp.Rm) (fr : Bool) (k : Int) (Φ : Post) (h : inv17b ((e, u, i), fr, k)) (hΦ : Φ .normal (mkS 88 [(0, TV.int .i64 e), (1, TV.l 28 PT u), (5, .a .nils), (6, TV.int .i64 i), (7, TV.bool (W.bnot (Sp.tk e u i.toNat)))] [])) : wpT Try.prog (knownL [ctr11] blk17 noneK) (loopOf (blkC (bodyOf Try.f17) 2)) (mk17bn ((e, u, i), fr, k)) (stepK 88 [0, 1, 5, 6, 7, 8] [86] [0, 1, 5, 6, 7] [86] 2 mkj17b muj17b psij17b (u.length - k).toNat Φ) := by
  obtain ⟨hu, hul, i0, i1, k0, k1, hfr⟩ := id h
  simp only at hu hul i0 i1 k0 k1 hfr
  obtain ⟨c, rfl⟩ : ∃ c : Nat, k = c := ⟨k.toNat, by omega⟩
  rw [Int.toNat_natCast] at hfr
  refine Eq.mpr (nf17bn _ mkj17b psij17b muj17b e u i fr c Φ _) ?_
  rw [W.add_i64 (a := (c : Int)) (b := 1) (by omega) (by omega)]
  refine brc_ilt (fun h => ?_) fun h => ?_
  · have h : c < u.length := by have : ((c : Nat) : Int) < ((u.length : Nat) : Int) := h; omega
    refine brc_of (fun hw => ?_) fun hw => ?_
    · have hsucc := Sp.tk_take (e := e) h i.toNat
      have h0 : Sp.tk e (u.take c) i.toNat = false := by
        rw [hw] at hfr
        cases hq : Sp.tk e (u.take c) i.toNat with
        | false => rfl
        | true => rw [hq] at hfr; cases hfr
      rw [h0, Bool.false_or] at hsucc
      have ei : (i.toNat : Int) = i := by omega
      rw [ei] at hsucc
      have nxt : ∀ (w2 : Bool), w2 = !(Sp.tk e (u.take (c + 1)) i.toNat) → ∃ j, mkS 88 [(0, TV.int .i64 e), (1, TV.l 28 PT u), (5, .a .nils), (6, TV.int .i64 i), (7, TV.bool w2), (8, TV.int .i64 ((c : Int) + 1))] [] = mkj17b j ∧ muj17b j < ((u.length : Int) - (c : Int)).toNat ∧ psij17b j Φ := by
        intro w2 hw2
        refine ⟨.inl ((e, u, i), w2, (c : Int) + 1), rfl, ?_, ⟨hu, hul, i0, i1, ?_, ?_, ?_⟩, hΦ⟩
        · show ((u.length : Int) - ((c : Int) + 1)).toNat < ((u.length : Int) - (c : Int)).toNat; omega
        · show 0 ≤ (c : Int) + 1; omega
        · show (c : Int) + 1 ≤ (u.length : Int); omega
        · show w2 = !(Sp.tk e (u.take ((c : Int) + 1).toNat) i.toNat)
          rw [show ((c : Int) + 1).toNat = c + 1 by omega]; exact hw2
      have e1 : W.nth u (W.toNat (c : Int)) ((0 : Int), (0 : Int), PUnit.unit) = W.nth u c ((0 : Int), (0 : Int), ()) := rfl
      rw [e1]
      generalize W.nth u c ((0 : Int), (0 : Int), ()) = r at hsucc ⊢
      obtain ⟨a, d, y⟩ := r
      simp only at hsucc ⊢
      have keep : ¬ (Sp.check a d e = 0 ∧ a ≤ i ∧ i < a + d) → true = !(Sp.tk e (u.take (c + 1)) i.toNat) := fun hq => by rw [hsucc, decide_eq_false hq]; rfl
      refine grd_ile (by omega) (grd_nlt h ⟨trivial, brc_ine (fun hz => nxt true (keep fun h => hz h.1)) fun hz => brc_ilt (fun hlt => nxt true (keep (by omega))) fun hge => nxt _ ?_⟩)
      have hs := check_in hz
      rw [W.sub_i64 (by omega) (by omega), hsucc]
      by_cases hd : i - a ≥ d
      · have e2 : W.ige (i - a) d = true := decide_eq_true hd
        rw [e2, decide_eq_false (by omega)]; rfl
      · have e2 : W.ige (i - a) d = false := decide_eq_false hd
        rw [e2, decide_eq_true (p := Sp.check a d e = 0 ∧ a ≤ i ∧ i < a + d) ⟨hz, by omega, by omega⟩]; rfl
    · have h0 : Sp.tk e (u.take c) i.toNat = true := by
        rw [hw] at hfr
        cases hq : Sp.tk e (u.take c) i.toNat with
        | true => rfl
        | false => rw [hq] at hfr; cases hfr
      rw [Sp.tk_mono h0] at hΦ
      rw [hw]; exact hΦ
  · have h : (u.length : Int) ≤ (c : Int) := h
    rw [List.take_of_length_le (by omega)] at hfr
    rw [hfr]; exact hΦ

theorem step17bo (e : Int) (u : List Sp.Rm) (i : Int) (o : List Sp.Rm) (fr : Bool) (k : Int) (Φ : Post) (h : inv17b ((e, u, i), fr, k)) (hΦ : Φ .normal (mkS 88 [(0, TV.int .i64 e), (1, TV.l 28 PT u), (5, TV.h 86), (6, TV.int .i64 i), (7, TV.bool (W.bnot (Sp.tk e u i.toNat)))] [(86, .arr false 28 PT o)])) : wpT Try.prog (knownL [ctr11] blk17 noneK) (loopOf (blkC (bodyOf Try.f17) 2)) (mk17bo ((e, u, i, o), fr, k)) (stepK 88 [0, 1, 5, 6, 7, 8] [86] [0, 1, 5, 6, 7] [86] 2 mkj17b muj17b psij17b (u.length - k).toNat Φ) := by
  obtain ⟨hu, hul, i0, i1, k0, k1, hfr⟩ := id h
  simp only at hu hul i0 i1 k0 k1 hfr
  obtain ⟨c, rfl⟩ : ∃ c : Nat, k = c := ⟨k.toNat, by omega⟩
  rw [Int.toNat_natCast] at hfr
  refine Eq.mpr (nf17bo _ mkj17b psij17b muj17b e u i o fr c Φ _) ?_
  rw [W.add_i64 (a := (c : Int)) (b := 1) (by omega) (by omega)]
  refine brc_ilt (fun h => ?_) fun h => ?_
  · have h : c < u.length := by have : ((c : Nat) : Int) < ((u.length : Nat) : Int) := h; omega
    refine brc_of (fun hw => ?_) fun hw => ?_
    · have hsucc := Sp.tk_take (e := e) h i.toNat
      have h0 : Sp.tk e (u.take c) i.toNat = false := by
        rw [hw] at hfr
        cases hq : Sp.tk e (u.take c) i.toNat with
        | false => rfl
        | true => rw [hq] at hfr; cases hfr
      rw [h0, Bool.false_or] at hsucc
      have ei : (i.toNat : Int) = i := by omega
      rw [ei] at hsucc
      have nxt : ∀ (w2 : Bool), w2 = !(Sp.tk e (u.take (c + 1)) i.toNat) → ∃ j, mkS 88 [(0, TV.int .i64 e), (1, TV.l 28 PT u), (5, TV.h 86), (6, TV.int .i64 i), (7, TV.bool w2), (8, TV.int .i64 ((c : Int) + 1))] [(86, .arr false 28 PT o)] = mkj17b j ∧ muj17b j < ((u.length : Int) - (c : Int)).toNat ∧ psij17b j Φ := by
        intro w2 hw2
        refine ⟨.inr ((e, u, i, o), w2, (c : Int) + 1), rfl, ?_, ⟨hu, hul, i0, i1, ?_, ?_, ?_⟩, hΦ⟩
        · show ((u.length : Int) - ((c : Int) + 1)).toNat < ((u.length : Int) - (c : Int)).toNat; omega
        · show 0 ≤ (c : Int) + 1; omega
        · show (c : Int) + 1 ≤ (u.length : Int); omega
        · show w2 = !(Sp.tk e (u.take ((c : Int) + 1).toNat) i.toNat)
          rw [show ((c : Int) + 1).toNat = c + 1 by omega]; exact hw2
      have e1 : W.nth u (W.toNat (c : Int)) ((0 : Int), (0 : Int), PUnit.unit) = W.nth u c ((0 : Int), (0 : Int), ()) := rfl
      rw [e1]
      generalize W.nth u c ((0 : Int), (0 : Int), ()) = r at hsucc ⊢
      obtain ⟨a, d, y⟩ := r
      simp only at hsucc ⊢
      have keep : ¬ (Sp.check a d e = 0 ∧ a ≤ i ∧ i < a + d) → true = !(Sp.tk e (u.take (c + 1)) i.toNat) := fun hq => by rw [hsucc, decide_eq_false hq]; rfl
      refine grd_ile (by omega) (grd_nlt h ⟨trivial, brc_ine (fun hz => nxt true (keep fun h => hz h.1)) fun hz => brc_ilt (fun hlt => nxt true (keep (by omega))) fun hge => nxt _ ?_⟩)
      have hs := check_in hz
      rw [W.sub_i64 (by omega) (by omega), hsucc]
      by_cases hd : i - a ≥ d
      · have e2 : W.ige (i - a) d = true := decide_eq_true hd
        rw [e2, decide_eq_false (by omega)]; rfl
      · have e2 : W.ige (i - a) d = false := decide_eq_false hd
        rw [e2, decide_eq_true (p := Sp.check a d e = 0 ∧ a ≤ i ∧ i < a + d) ⟨hz, by omega, by omega⟩]; rfl
    · have h0 : Sp.tk e (u.take c) i.toNat = true := by
        rw [hw] at hfr
        cases hq : Sp.tk e (u.take c) i.toNat with
        | true => rfl
        | false => rw [hq] at hfr; cases hfr
      rw [Sp.tk_mono h0] at hΦ
      rw [hw]; exact hΦ
  · have h : (u.length : Int) ≤ (c : Int) := h
    rw [List.take_of_length_le (by omega)] at hfr
    rw [hfr]; exact hΦ

theorem loop17b : ∀ s Φ, piece17b s Φ → Run Try.prog (.code (.block 2 (blkC (bodyOf Try.f17) 2))) s Φ := by
  intro s Φ hp
  have hp : loopP 88 [0, 1, 5, 6, 7, 8] [86] mkj17b psij17b s Φ := cleanT_mono (fun s2 h => by
    rcases h with ⟨i, h1, h2⟩ | ⟨i, h1, h2⟩
    · exact ⟨.inl i, h1, h2⟩
    · exact ⟨.inr i, h1, h2⟩) hp
  refine run_loopB (lx := [0, 1, 5, 6, 7]) (kx := [86]) known17 muj17b (by kernel_rfl) (lamOk_free (by kernel_rfl)) ?_ s Φ hp
  rintro (⟨⟨e, u, i⟩, fr, k⟩ | ⟨⟨e, u, i, o⟩, fr, k⟩) Φ h
  · exact step17bn e u i [] fr k Φ h.1 h.2
  · exact step17bo e u i o fr k Φ h.1 h.2
abbrev JJ17 := I17n ⊕ I17
def mkj17 : JJ17 → TSt
  | .inl i => mk17n i
  | .inr i => mk17o i
def psij17 : JJ17 → Post → Prop
  | .inl i => psi17n i
  | .inr i => psi17o i
def muj17 : JJ17 → Nat
  | .inl i => (1031 - i.2.2).toNat
  | .inr i => (1031 - i.2.2.1).toNat
theorem end17_at {e i : Int} {u o : List Sp.Rm} {Φ : Post} (h : inv17 (e, u, i, o)) (hie : e ≤ i) (hE : end17 e u Φ) : (o = [] → Φ .normal (mkS 88 [(5, .a .nils)] [])) ∧ (o ≠ [] → Φ .normal (mkS 88 [(5, TV.h 86)] [(86, .arr false 28 PT o)])) := by
  obtain ⟨he, hu, hul, k, hk, hk2, ho⟩ := h
  simp only at he hu hul hk hk2 ho
  have : (e - 2).toNat = k := by omega
  rw [ho, ← this]; exact hE
/-- One block further. -/
theorem next17 {e i : Int} {u o : List Sp.Rm} (h : inv17 (e, u, i, o)) (hie : i < e) : (Sp.tk e u i.toNat = true → inv17 (e, u, i + 1, o)) ∧ (Sp.tk e u i.toNat = false → inv17 (e, u, i + 1, Sp.snoc i.toNat o)) := by
  obtain ⟨he, hu, hul, k, hk, hk2, ho⟩ := h
  simp only at he hu hul hk hk2 ho
  have hi : i.toNat = 2 + k := by omega
  have hg : (Sp.mark e u).getD (2 + k) false = Sp.tk e u (2 + k) := Sp.mark_get (by omega)
  rw [hi]
  refine ⟨fun ht => ⟨he, hu, hul, k + 1, by show i + 1 = _; omega, .inr (by show (2 : Int) + ((k + 1 : Nat) : Int) ≤ e; omega), ?_⟩, fun ht => ⟨he, hu, hul, k + 1, by show i + 1 = _; omega, .inr (by show (2 : Int) + ((k + 1 : Nat) : Int) ≤ e; omega), ?_⟩⟩
  · show o = Sp.fr (Sp.mark e u) (k + 1)
    rw [Sp.fr_pos (by rw [hg]; exact ht)]; exact ho
  · show Sp.snoc (2 + k) o = Sp.fr (Sp.mark e u) (k + 1)
    rw [Sp.fr_neg (by rw [hg]; exact ht), ho]
theorem bnot2 (t : Bool) : W.bnot (W.bnot t) = t := by cases t <;> rfl
theorem loop17 : ∀ s Φ, piece17 s Φ → Run Try.prog (.code (.block 0 (blkC (bodyOf Try.f17) 0))) s Φ := by
  intro s Φ hp
  have hp : loopP 88 [0, 1, 5, 6] [86] mkj17 psij17 s Φ := cleanT_mono (fun s2 h => by
    rcases h with ⟨i, h1, h2⟩ | ⟨i, h1, h2⟩
    · exact ⟨.inl i, h1, h2⟩
    · exact ⟨.inr i, h1, h2⟩) hp
  refine run_loopB (lx := [5]) (kx := [86]) known17 muj17 (by kernel_rfl) ?_ ?_ s Φ hp
  · refine lamOk_of (fun id c' hm ψ hψ => ?_) (fun c' hm => ?_)
    · have hids : (blocksOf (loopOf (blkC (bodyOf Try.f17) 0))).map (·.1) = [1, 2, 3] := by kernel_rfl
      have hc : c' = blkC (loopOf (blkC (bodyOf Try.f17) 0)) id := findB_mem (by rw [hids]; rfl) hm
      have hid : id ∈ [1, 2, 3] := by rw [← hids]; exact List.mem_map.2 ⟨_, hm, rfl⟩
      simp only [List.mem_cons, List.not_mem_nil, or_false] at hid
      rcases hid with rfl | rfl | rfl
      · cases hψ
      · cases hψ
        rw [hc]
        have : blkC (loopOf (blkC (bodyOf Try.f17) 0)) 2 = blkC (bodyOf Try.f17) 2 := by kernel_rfl
        rw [this]; exact loop17b
      · cases hψ
    · have : scopesOf (loopOf (blkC (bodyOf Try.f17) 0)) = [] := by kernel_rfl
      rw [this] at hm; cases hm
  rintro (⟨e, u, i⟩ | ⟨e, u, i, o⟩) Φ h
  · obtain ⟨hi, hE⟩ := h
    simp only at hi hE
    obtain ⟨he, hu, hul, k, hk, hk2, ho⟩ := id hi
    simp only at he hu hul hk hk2 ho
    refine Eq.mpr (nf17an _ mkj17 psij17 muj17 e u i Φ _) ?_
    refine brc_ilt (fun h => .inl ⟨((e, u, i), true, 0), rfl, ⟨hu, hul, by show 0 ≤ i; omega, by show i ≤ 1024; omega, Int.le_refl _, by show (0 : Int) ≤ (u.length : Int); omega, ?_⟩, ?_⟩) fun h => (end17_at hi h hE).1 rfl
    · show true = !(Sp.tk e (u.take 0) i.toNat)
      rw [List.take_zero]
      have : Sp.tk e [] i.toNat = false := by unfold Sp.tk; rfl
      rw [this]; rfl
    · obtain ⟨q1, q2⟩ := next17 hi h
      dsimp only
      rw [bnot2, W.add_i64 (a := i) (b := 1) (by omega) (by omega)]
      refine brc_of (fun ht => ⟨.inl (e, u, i + 1), rfl, ?_, q1 ht, hE⟩) fun ht => ⟨.inr (e, u, i + 1, [(i, 1, ())]), rfl, ?_, ⟨by simp, ?_⟩, hE⟩
      · show (1031 - (i + 1)).toNat < (1031 - i).toNat; omega
      · show (1031 - (i + 1)).toNat < (1031 - i).toNat; omega
      · have q := q2 ht
        have e2 : Sp.snoc i.toNat [] = [(i, 1, ())] := by
          unfold Sp.snoc
          show [((i.toNat : Int), 1, ())] = _
          rw [show (i.toNat : Int) = i by omega]
        rw [e2] at q; exact q
  · obtain ⟨⟨hne, hi⟩, hE⟩ := h
    simp only at hne hi hE
    obtain ⟨he, hu, hul, k, hk, hk2, ho⟩ := id hi
    simp only at he hu hul hk hk2 ho
    refine Eq.mpr (nf17ao _ mkj17 psij17 muj17 e u i o Φ _) ?_
    refine brc_ilt (fun h => .inr ⟨((e, u, i, o), true, 0), rfl, ⟨hu, hul, by show 0 ≤ i; omega, by show i ≤ 1024; omega, Int.le_refl _, by show (0 : Int) ≤ (u.length : Int); omega, ?_⟩, ?_⟩) fun h => (end17_at hi h hE).2 hne
    · show true = !(Sp.tk e (u.take 0) i.toNat)
      rw [List.take_zero]
      have : Sp.tk e [] i.toNat = false := by unfold Sp.tk; rfl
      rw [this]; rfl
    · obtain ⟨q1, q2⟩ := next17 hi h
      have hol := Sp.fr_len (t := Sp.mark e u) k
      rw [← ho] at hol
      dsimp only
      rw [bnot2, W.add_i64 (a := i) (b := 1) (by omega) (by omega)]
      refine brc_of (fun ht => ⟨.inr (e, u, i + 1, o), rfl, ?_, ⟨hne, q1 ht⟩, hE⟩) fun ht => ?_
      · show (1031 - (i + 1)).toNat < (1031 - i).toNat; omega
      have q := q2 ht
      obtain ⟨l, v, rfl⟩ : ∃ l v, o = l ++ [v] := ⟨o.dropLast, o.getLast hne, (List.dropLast_concat_getLast hne).symm⟩
      have hv := Sp.fr_ok k v (by rw [← ho]; simp)
      have hL : (l ++ [v]).length = l.length + 1 := by simp
      have hsub : W.toNat (W.sub .i64 (W.ofNat (W.len (l ++ [v]))) 1) = l.length := by
        show W.toNat (W.sub .i64 (((l ++ [v]).length : Nat) : Int) 1) = l.length
        rw [W.sub_i64 (by omega) (by omega)]
        show ((((l ++ [v]).length : Nat) : Int) - 1).toNat = l.length
        omega
      have hsub0 : (0 : Int) ≤ W.sub .i64 (W.ofNat (W.len (l ++ [v]))) 1 := by
        show (0 : Int) ≤ W.sub .i64 (((l ++ [v]).length : Nat) : Int) 1
        rw [W.sub_i64 (by omega) (by omega)]; omega
      have hnth : W.nth (l ++ [v]) l.length ((0 : Int), (0 : Int), PUnit.unit) = v := Sp.nth_last l v
      have hlt : l.length < W.len (l ++ [v]) := by show l.length < (l ++ [v]).length; omega
      rw [hsub, hnth]
      have app : Sp.snoc i.toNat (l ++ [v]) = l ++ [v] ++ [(i, 1, ())] → grd (W.nle (W.nmul (W.nadd (W.len (l ++ [v])) (W.len [(i, (1 : Int), PUnit.unit)])) 16) 140737488355328) (∃ j, mkS 88 [(0, TV.int .i64 e), (1, TV.l 28 PT u), (5, TV.h 86), (6, TV.int .i64 (i + 1))] [(86, TOb.arr false 28 PT (asT (List (Int × Int × Unit)) (W.app (l ++ [v]) [(i, (1 : Int), PUnit.unit)])))] = mkj17 j ∧ muj17 j < (1031 - i).toNat ∧ psij17 j Φ) := fun hs => by
        rw [hs] at q
        refine grd_nle (by show ((l ++ [v]).length + 1) * 16 ≤ 140737488355328; omega) ⟨.inr (e, u, i + 1, (l ++ [v] ++ [((i, 1, ()) : Sp.Rm)] : List Sp.Rm)), rfl, ?_, ⟨by simp, q⟩, hE⟩
        show (1031 - (i + 1)).toNat < (1031 - i).toNat; omega
      refine brc_igt (fun hg => grd_ile hsub0 (grd_nlt hlt (grd_nlt hlt (grd_ile hsub0 (grd_nlt hlt (grd_nlt hlt (brc_ieq (fun hq => grd_ile hsub0 (grd_nlt hlt (grd_nlt hlt (grd_ile hsub0 (grd_nlt hlt (grd_nlt hlt ?_)))))) fun hq => app (Eq.trans (Sp.snoc_add fun hq2 => hq ?_) ?_)))))))) fun hg => ?_
      · rw [W.add_i64 (by omega) (by omega)] at hq
        have hs : Sp.snoc i.toNat (l ++ [v]) = l ++ [(v.1, v.2.1 + 1, ())] := Sp.snoc_glue (by omega)
        rw [hs] at q
        have hup : W.upd (l ++ [v]) l.length (v.1, W.add .i64 v.2.1 1, PUnit.unit) = l ++ [(v.1, v.2.1 + 1, ())] := by
          rw [W.add_i64 (by omega) (by omega)]; exact Sp.upd_last l v _
        rw [hup]
        refine ⟨.inr (e, u, i + 1, (l ++ [((v.1, v.2.1 + 1, ()) : Sp.Rm)] : List Sp.Rm)), rfl, ?_, ⟨by simp, q⟩, hE⟩
        show (1031 - (i + 1)).toNat < (1031 - i).toNat; omega
      · rw [W.add_i64 (by omega) (by omega)]; omega
      · rw [show (i.toNat : Int) = i by omega]
      · exfalso
        have hg : (((l ++ [v]).length : Nat) : Int) ≤ 0 := hg
        omega
theorem blk17_some {id : Nat} {ψ : Piece} (h : blk17 id = some ψ) : ∀ s Φ, ψ s Φ → Run Try.prog (.code (.block id (blkC (bodyOf Try.f17) id))) s Φ := by
  unfold blk17 at h
  split at h
  · rename_i hb
    have := Nat.eq_of_beq_eq_true hb
    subst this
    cases h; exact loop17
  · obtain ⟨rfl, rfl⟩ := one_some h
    exact loop17b
end Go.Proofs.Ytpohkoijbocpcaa
