/-
  Texts of a proof over the translated program: NeExt3.
-/
import Derived.Test.YtpohkoijbocpcaaNeExt3Nf
set_option linter.unusedVariables false
namespace Sp
open Go Go.AbsM
theorem isin_app (l : List Rm) (u : Rm) (i : Int) : isin (l ++ [u]) i = (isin l i || decide (u.1 ≤ i ∧ i - u.1 < u.2.1)) := by simp [isin]
theorem fr_ok {t : List Bool} : ∀ (k : Nat) (u : Rm), u ∈ fr t k → 2 ≤ u.1 ∧ 1 ≤ u.2.1 ∧ u.1 + u.2.1 ≤ 2 + k
  | 0, u, h => by simp [fr] at h
  | k + 1, u, h => by
    have ih := fr_ok (t := t) k
    cases ht : t.getD (2 + k) false with
    | true =>
      rw [fr_pos ht] at h
      have := ih u h; omega
    | false =>
      rw [fr_neg ht] at h
      unfold snoc at h
      split at h
      · rename_i v hv
        have hvm := ih v (List.mem_of_getLast? hv)
        split at h
        · rename_i he
          rcases List.mem_append.1 h with h | h
          · have := ih u ((List.dropLast_sublist _).subset h); omega
          · simp only [List.mem_singleton] at h; subst h
            show 2 ≤ v.1 ∧ 1 ≤ v.2.1 + 1 ∧ v.1 + (v.2.1 + 1) ≤ _; omega
        · rcases List.mem_append.1 h with h | h
          · have := ih u h; omega
          · simp only [List.mem_singleton] at h; subst h
            show (2 : Int) ≤ ((2 + k : Nat) : Int) ∧ (1 : Int) ≤ 1 ∧ ((2 + k : Nat) : Int) + 1 ≤ _; omega
      · simp only [List.mem_singleton] at h; subst h
        show (2 : Int) ≤ ((2 + k : Nat) : Int) ∧ (1 : Int) ≤ 1 ∧ ((2 + k : Nat) : Int) + 1 ≤ _; omega
theorem isin_snoc {j : Nat} {l : List Rm} (h : ∀ u, u ∈ l → 1 ≤ u.2.1) (i : Int) : isin (snoc j l) i = (isin l i || decide (i = j)) := by
  unfold snoc
  split
  · rename_i v hv
    split
    · rename_i he
      obtain ⟨l', rfl⟩ := List.getLast?_eq_some_iff.1 hv
      have hv1 := h v (by simp)
      rw [List.dropLast_concat, isin_app, isin_app, Bool.or_assoc]
      congr 1
      rw [← Bool.decide_or]
      refine bool_dec ?_
      show (v.1 ≤ i ∧ i - v.1 < v.2.1 + 1) ↔ _
      omega
    · rw [isin_app]
      congr 1
      refine bool_dec ?_
      show ((j : Int) ≤ i ∧ i - (j : Int) < 1) ↔ _
      omega
  · rename_i hn
    rw [List.getLast?_eq_none_iff.1 hn]
    show isin ([] ++ [((j : Int), 1, ())]) i = _
    rw [isin_app]
    congr 1
    refine bool_dec ?_
    show ((j : Int) ≤ i ∧ i - (j : Int) < 1) ↔ _
    omega
theorem fr_any {t : List Bool} {i : Int} (hi : 0 ≤ i) : ∀ (k : Nat), isin (fr t k) i = (decide (2 ≤ i ∧ i < 2 + k) && !(t.getD i.toNat false))
  | 0 => by
    have : ¬ (2 ≤ i ∧ i < 2 + ((0 : Nat) : Int)) := by omega
    rw [decide_eq_false this]; rfl
  | k + 1 => by
    have ih := fr_any (t := t) hi k
    cases ht : t.getD (2 + k) false with
    | true =>
      rw [fr_pos ht, ih]
      by_cases he : i = 2 + (k : Int)
      · have e1 : i.toNat = 2 + k := by omega
        rw [e1, ht]; simp
      · congr 1
        exact bool_dec (by omega)
    | false =>
      rw [fr_neg ht, isin_snoc (fun u hu => (fr_ok k u hu).2.1), ih]
      by_cases he : i = 2 + (k : Int)
      · have e1 : i.toNat = 2 + k := by omega
        rw [e1, ht, decide_eq_true (p := i = ((2 + k : Nat) : Int)) (by omega), decide_eq_true (p := 2 ≤ i ∧ i < 2 + ((k + 1 : Nat) : Int)) (by omega)]; simp
      · rw [decide_eq_false (p := i = ((2 + k : Nat) : Int)) (by omega), Bool.or_false]
        congr 1
        exact bool_dec (by omega)
theorem frees_in {b x : Int} {u : List Rm} (hb : 0 ≤ b ∧ b < 256) (h0 : 0 ≤ x) (h1 : x < 260) : isin (frees b u) x = wantB b u x := by
  have he : W.imin b 1024 = b := by rw [imin_eq]; omega
  rw [frees_eq, he, fr_any h0, mark_get (by omega)]
  unfold wantB
  congr 1
  exact bool_dec (by omega)
theorem frees_ok (b : Int) (u : List Rm) : okF (frees b u) := by
  have hi := imin_eq b 1024
  rw [frees_eq]
  refine ⟨?_, fun v hv => ?_⟩
  · have := fr_len (t := mark (W.imin b 1024) u) (W.imin b 1024 - 2).toNat
    omega
  · have := fr_ok _ v hv
    omega
theorem isin_take {f : List Rm} {k : Nat} (h : k < f.length) (i : Int) : isin (f.take (k + 1)) i = (isin (f.take k) i || decide ((W.nth f k ((0 : Int), (0 : Int), ())).1 ≤ i ∧ i - (W.nth f k ((0 : Int), (0 : Int), ())).1 < (W.nth f k ((0 : Int), (0 : Int), ())).2.1)) := by
  rw [take_succ h, isin_app]
theorem want_take {n : Int} {u : List Rm} {k : Nat} (h : k < u.length) {i : Int} (hi : 0 ≤ i) : wantB n (u.take (k + 1)) i = (wantB n (u.take k) i && !(decide (check (W.nth u k ((0 : Int), (0 : Int), ())).1 (W.nth u k ((0 : Int), (0 : Int), ())).2.1 n = 0 ∧ (W.nth u k ((0 : Int), (0 : Int), ())).1 ≤ i ∧ i < (W.nth u k ((0 : Int), (0 : Int), ())).1 + (W.nth u k ((0 : Int), (0 : Int), ())).2.1))) := by
  unfold wantB
  rw [take_succ h, tk_app, Bool.not_or, ← Bool.and_assoc]
  have e : (i.toNat : Int) = i := by omega
  rw [e]
theorem want_no {n i : Int} {u : List Rm} {k : Nat} (h : wantB n (u.take k) i = false) : wantB n u i = false := by
  unfold wantB at h ⊢
  rw [Bool.and_eq_false_iff] at h ⊢
  rcases h with h | h
  · exact .inl h
  · refine .inr ?_
    rw [Bool.not_eq_false'] at h ⊢
    unfold tk at h ⊢
    rw [List.any_eq_true] at h ⊢
    obtain ⟨v, h1, h2⟩ := h
    exact ⟨v, List.mem_of_mem_take h1, h2⟩
theorem nth_mem {f : List Rm} {k : Nat} (h : k < f.length) : W.nth f k ((0 : Int), (0 : Int), ()) ∈ f := by
  unfold W.nth
  rw [List.getD_eq_getElem?_getD, List.getElem?_eq_getElem h]; exact List.getElem_mem h
end Sp
namespace Go.Proofs.Ytpohkoijbocpcaa
open Go.AbsM
attribute [local irreducible] Sp.mark Sp.fr Sp.frees Sp.tk
theorem good15n : GoodC Try.prog ctr15n where
  there := good15.there
  cells := good15.cells
  call := fun d hp S => by
    obtain ⟨b, u, x⟩ : Int × List Sp.Rm × Unit := d
    obtain ⟨hu, hl, h⟩ : Sp.inR u ∧ u.length < 1000000 ∧ Sp.frees b u = [] := hp
    have e : ctr15.out (b, u, x) = .a .nils := if_pos h
    have := good15.call (b, u, x) ⟨hu, hl⟩ S
    rw [e] at this
    exact this
theorem good15o : GoodC Try.prog ctr15o where
  there := good15.there
  cells := good15.cells
  call := fun d hp S => by
    obtain ⟨b, u, x⟩ : Int × List Sp.Rm × Unit := d
    obtain ⟨hu, hl, h⟩ : Sp.inR u ∧ u.length < 1000000 ∧ Sp.frees b u ≠ [] := hp
    have e : ctr15.out (b, u, x) = .o (.own 23 PT (Sp.frees b u)) := if_neg h
    have := good15.call (b, u, x) ⟨hu, hl⟩ S
    rw [e] at this
    exact this

theorem good6Ln : Goods Try.prog blkLn := .cons good9 (.cons good10 (.cons good15n .nil))
theorem known6n : KnownOk Try.prog (envL blkLn) (knownL blkLn blk6n noneK) := knownL_ok wide good6Ln _ _
theorem loop6bn : ∀ s Φ, loopP 107 [1, 5, 6, 7, 8, 9] [] mk6bn psi6bn s Φ → Run Try.prog (.code (.block 2 (blkC (bodyOf Try.f6) 2))) s Φ := by
  refine run_loopB (lx := [1, 5, 6, 7, 8]) (kx := []) known6n (fun j : I6 × Bool × Int => (j.1.2.2.2.length - j.2.2).toNat) (by kernel_rfl) (lamOk_free (by kernel_rfl)) ?_
  rintro ⟨⟨u, n, i, f⟩, fr, k⟩ Φ ⟨⟨hc, hp, hf, k0, k1, hfr⟩, hΦ⟩
  simp only at hc hp hf k0 k1 hfr hΦ
  obtain ⟨hn, hu, hul, i0, i1⟩ := id hp
  obtain ⟨c, rfl⟩ : ∃ c : Nat, k = c := ⟨k.toNat, by omega⟩
  rw [Int.toNat_natCast] at hfr
  refine Eq.mpr (nf6bn _ _ _ _ u n i f fr c Φ _) ?_
  subst hc
  have h0 : (c : Int) = 0 := by have : (c : Int) ≤ 0 := k1; omega
  refine brc_ilt (fun h => by omega) fun h => ?_
  have e : fr = Sp.isin [] i := by rw [hfr]; simp
  rw [e]; exact hΦ
theorem loop6dn : ∀ s Φ, loopP 107 [1, 5, 6, 7, 8, 10, 11] [] mk6dn psi6dn s Φ → Run Try.prog (.code (.block 4 (blkC (bodyOf Try.f6) 4))) s Φ := by
  refine run_loopB (lx := [1, 5, 6, 7, 8, 10]) (kx := []) known6n (fun j : I6 × Bool × Bool × Int => (j.1.1.length - j.2.2.2).toNat) (by kernel_rfl) (lamOk_free (by kernel_rfl)) ?_
  rintro ⟨⟨u, n, i, f⟩, fr, wt, k⟩ Φ ⟨⟨hp, k0, k1, hwt⟩, hΦ⟩
  simp only at hp k0 k1 hwt hΦ
  obtain ⟨hn, hu, hul, i0, i1⟩ := id hp
  obtain ⟨c, rfl⟩ : ∃ c : Nat, k = c := ⟨k.toNat, by omega⟩
  rw [Int.toNat_natCast] at hwt
  refine Eq.mpr (nf6dn _ _ _ _ u n i f fr wt c Φ _) ?_
  rw [W.add_i64 (a := (c : Int)) (b := 1) (by omega) (by omega)]
  refine brc_ilt (fun h => ?_) fun h => ?_
  · have h : c < u.length := by have : ((c : Nat) : Int) < ((u.length : Nat) : Int) := h; omega
    refine brc_of (fun hw => ?_) fun hw => ?_
    · have hsucc := Sp.want_take (n := n) h i0
      rw [← hwt, hw, Bool.true_and] at hsucc
      have nxt : ∀ (w2 : Bool), w2 = Sp.wantB n (u.take (c + 1)) i → ∀ {m : Nat}, m = ((u.length : Int) - (c : Int)).toNat → ∃ j, mkS 107 [(1, TV.l 23 PT u), (5, TV.int .i64 n), (6, .a .nils), (7, TV.int .i64 i), (8, TV.bool fr), (10, TV.bool w2), (11, TV.int .i64 ((c : Int) + 1))] [] = mk6dn j ∧ ((j.1.1.length : Int) - j.2.2.2).toNat < m ∧ psi6dn j Φ := by
        intro w2 hw2 m hm
        subst hm
        refine ⟨((u, n, i, f), fr, w2, (c : Int) + 1), rfl, ?_, ⟨hp, ?_, ?_, ?_⟩, hΦ⟩
        · show ((u.length : Int) - ((c : Int) + 1)).toNat < ((u.length : Int) - (c : Int)).toNat; omega
        · show 0 ≤ (c : Int) + 1; omega
        · show (c : Int) + 1 ≤ (u.length : Int); omega
        · show w2 = Sp.wantB n (u.take ((c : Int) + 1).toNat) i
          rw [show ((c : Int) + 1).toNat = c + 1 by omega]; exact hw2
      have hw1 : W.nth u (W.toNat (c : Int)) ((0 : Int), (0 : Int), PUnit.unit) = W.nth u c ((0 : Int), (0 : Int), ()) := rfl
      rw [hw1]
      have hin := hu _ (Sp.nth_mem h)
      generalize W.nth u c ((0 : Int), (0 : Int), ()) = r at hsucc hin ⊢
      obtain ⟨a, d, y⟩ := r
      obtain ⟨ha, hd⟩ : Sp.i64 a ∧ Sp.i64 d := hin
      simp only at hsucc ⊢
      have keep : ¬ (Sp.check a d n = 0 ∧ a ≤ i ∧ i < a + d) → wt = Sp.wantB n (u.take (c + 1)) i := fun hq => by rw [hsucc, hw, decide_eq_false hq]; rfl
      refine grd_ile (by omega) (grd_nlt h ⟨trivial, brc_ieq (fun hz => grd_ile (by omega) (grd_nlt h (brc_ige (fun hge => grd_ile (by omega) (grd_nlt h (grd_ile (by omega) (grd_nlt h ?_)))) fun hge => nxt _ (keep (by omega)) rfl))) fun hz => nxt _ (keep (by omega)) rfl⟩)
      have hs := check_in hz
      rw [W.sub_i64 (by omega) (by omega)]
      refine brc_ilt (fun hlt => nxt false ?_ rfl) fun hlt => nxt _ (keep (by omega)) rfl
      rw [hsucc, decide_eq_true (p := Sp.check a d n = 0 ∧ a ≤ i ∧ i < a + d) ⟨hz, by omega, by omega⟩]; rfl
    · have : Sp.wantB n u i = false := Sp.want_no (by rw [← hwt]; exact hw)
      rw [this] at hΦ
      rw [hw]; exact hΦ
  · have h : (u.length : Int) ≤ (c : Int) := h
    rw [List.take_of_length_le (by omega)] at hwt
    rw [hwt]; exact hΦ
theorem loop6an : ∀ s Φ, loopP 107 [1, 5, 6, 7] [] mk6an psi6an s Φ → Run Try.prog (.code (.block 0 (blkC (bodyOf Try.f6) 0))) s Φ := by
  refine run_loopB (lx := []) (kx := []) known6n (fun i : I6 => (260 - i.2.2.1).toNat) (by kernel_rfl) ?_ ?_
  · refine lamOk_of (fun id c' hm ψ hψ => ?_) (fun c' hm => ?_)
    · have hids : (blocksOf (loopOf (blkC (bodyOf Try.f6) 0))).map (·.1) = [1, 2, 3, 4, 5] := by kernel_rfl
      have hc : c' = blkC (loopOf (blkC (bodyOf Try.f6) 0)) id := findB_mem (by rw [hids]; rfl) hm
      have hid : id ∈ [1, 2, 3, 4, 5] := by rw [← hids]; exact List.mem_map.2 ⟨_, hm, rfl⟩
      simp only [List.mem_cons, List.not_mem_nil, or_false] at hid
      rcases hid with rfl | rfl | rfl | rfl | rfl
      · cases hψ
      · cases hψ
        rw [hc]
        have : blkC (loopOf (blkC (bodyOf Try.f6) 0)) 2 = blkC (bodyOf Try.f6) 2 := by kernel_rfl
        rw [this]; exact loop6bn
      · cases hψ
      · cases hψ
        rw [hc]
        have : blkC (loopOf (blkC (bodyOf Try.f6) 0)) 4 = blkC (bodyOf Try.f6) 4 := by kernel_rfl
        rw [this]; exact loop6dn
      · cases hψ
    · have : scopesOf (loopOf (blkC (bodyOf Try.f6) 0)) = [] := by kernel_rfl
      rw [this] at hm; cases hm
  rintro ⟨u, n, i, f⟩ Φ ⟨⟨hc, hp, hf, hall⟩, hΦ⟩
  simp only at hc hp hf hall hΦ
  obtain ⟨hn, hu, hul, i0, i1⟩ := id hp
  refine Eq.mpr (nf6an _ _ _ _ u n i f Φ _) ?_
  refine brc_ilt (fun h => ?_) fun h => hΦ
  refine ⟨((u, n, i, f), false, 0), rfl, ⟨hc, hp, hf, Int.le_refl _, ?_, ?_⟩, ?_⟩
  · show (0 : Int) ≤ (f.length : Int); omega
  · show false = Sp.isin (f.take 0) i
    rw [List.take_zero]; rfl
  dsimp only
  have fin : ∀ {A : Prop} {m : Nat}, m = (260 - i).toNat → brc (W.bnot (W.beq (Sp.isin f i) (Sp.wantB n u i))) A (∃ j, mkS 107 [(1, TV.l 23 PT u), (5, TV.int .i64 n), (6, .a .nils), (7, TV.int .i64 (W.add .i64 i 1))] [] = mk6an j ∧ (260 - j.2.2.1).toNat < m ∧ psi6an j Φ) := by
    intro A m hm
    subst hm
    rw [hall i i0 h, Sp.beq_self, W.add_i64 (a := i) (b := 1) (by omega) (by omega)]
    refine brc_no rfl ⟨(u, n, i + 1, f), rfl, ?_, ⟨hc, ⟨hn, hu, hul, ?_, ?_⟩, hf, hall⟩, hΦ⟩
    · show (260 - (i + 1)).toNat < (260 - i).toNat; omega
    · show 0 ≤ i + 1; omega
    · show i + 1 ≤ 260; omega
  have wd : ∀ w : Bool, w = decide (2 ≤ i ∧ i < n) → w = Sp.wantB n (u.take 0) i := fun w hw => by
    rw [hw, List.take_zero]
    have : Sp.tk n [] i.toNat = false := by unfold Sp.tk; rfl
    unfold Sp.wantB
    rw [this]; simp
  refine brc_ige (fun h2 => ⟨((u, n, i, f), Sp.isin f i, W.ilt i n, 0), rfl, ⟨hp, Int.le_refl _, ?_, ?_⟩, ?_⟩) fun h2 => ⟨((u, n, i, f), Sp.isin f i, false, 0), rfl, ⟨hp, Int.le_refl _, ?_, ?_⟩, ?_⟩
  · show (0 : Int) ≤ (u.length : Int); omega
  · refine wd _ ?_
    exact Sp.bool_dec (by omega)
  · exact fin rfl
  · show (0 : Int) ≤ (u.length : Int); omega
  · refine wd _ ?_
    rw [decide_eq_false (by omega)]
  · exact fin rfl
def law6n : TCtr := lawC 6 [.v (.int .u8), .l 23 PT] (fun (d : Int × List Sp.Rm × Unit) => (0 ≤ d.1 ∧ d.1 < 256) ∧ Sp.inR d.2.1 ∧ Sp.frees d.1 d.2.1 = [])
theorem good6n : GoodC Try.prog law6n := by
  refine good_byDB (c := law6n) (DL := []) (blk := blk6n) (lab := noneK) (fn := Try.f6) wide good6Ln (fun c h => by cases h) ⟨by kernel_rfl, by kernel_rfl, by kernel_rfl, by kernel_rfl⟩ (lamOk_body (by kernel_rfl) (by kernel_rfl) (fun id ψ h => ?_) (fun l rest ψ _ hl => by cases hl)) (fun d hd => ?_)
  · have h : blk6n id = some ψ := h
    unfold blk6n at h
    split at h
    · rename_i hb
      have := Nat.eq_of_beq_eq_true hb
      subst this
      cases h; exact loop6an
    · split at h
      · rename_i hb
        have := Nat.eq_of_beq_eq_true hb
        subst this
        cases h; exact loop6bn
      · obtain ⟨rfl, rfl⟩ := one_some h
        exact loop6dn
  · obtain ⟨b, u, x⟩ : Int × List Sp.Rm × Unit := d
    obtain ⟨hb, hu, hf⟩ : (0 ≤ b ∧ b < 256) ∧ Sp.inR u ∧ Sp.frees b u = [] := hd
    refine Blk.nf (nf6n b u _) ⟨trivial, brc_igt (fun h => rfl) fun h => ?_⟩
    have h : (u.length : Int) ≤ 20 := h
    have eb : W.wrap .i64 b = b := W.wi64_in (by omega) (by omega)
    rw [eb]
    refine ⟨⟨hu, by omega, hf⟩, (u, b, 0, Sp.frees b u), rfl, ⟨hf, ⟨hb, hu, by show u.length ≤ 20; omega, Int.le_refl _, by show (0 : Int) ≤ 260; omega⟩, Sp.frees_ok b u, fun y y0 y1 => Sp.frees_in hb y0 y1⟩, rfl⟩

theorem good6Lo : Goods Try.prog blkLo := .cons good9 (.cons good10 (.cons good15o .nil))
theorem known6o : KnownOk Try.prog (envL blkLo) (knownL blkLo blk6o noneK) := knownL_ok wide good6Lo _ _
theorem loop6bo : ∀ s Φ, loopP 107 [1, 5, 6, 7, 8, 9] [21] mk6bo psi6bo s Φ → Run Try.prog (.code (.block 2 (blkC (bodyOf Try.f6) 2))) s Φ := by
  refine run_loopB (lx := [1, 5, 6, 7, 8]) (kx := [21]) known6o (fun j : I6 × Bool × Int => (j.1.2.2.2.length - j.2.2).toNat) (by kernel_rfl) (lamOk_free (by kernel_rfl)) ?_
  rintro ⟨⟨u, n, i, f⟩, fr, k⟩ Φ ⟨⟨hc, hp, hf, k0, k1, hfr⟩, hΦ⟩
  simp only at hc hp hf k0 k1 hfr hΦ
  obtain ⟨hn, hu, hul, i0, i1⟩ := id hp
  obtain ⟨c, rfl⟩ : ∃ c : Nat, k = c := ⟨k.toNat, by omega⟩
  rw [Int.toNat_natCast] at hfr
  refine Eq.mpr (nf6bo _ _ _ _ u n i f fr c Φ _) ?_
  have hf1 := hf.1
  rw [W.add_i64 (a := (c : Int)) (b := 1) (by omega) (by omega)]
  refine brc_ilt (fun h => ?_) fun h => ?_
  · have h : c < f.length := by have : ((c : Nat) : Int) < ((f.length : Nat) : Int) := h; omega
    have hsucc := Sp.isin_take h i
    rw [← hfr] at hsucc
    have nxt : ∀ (w2 : Bool), w2 = Sp.isin (f.take (c + 1)) i → ∀ {m : Nat}, m = ((f.length : Int) - (c : Int)).toNat → ∃ j, mkS 107 [(1, TV.l 23 PT u), (5, TV.int .i64 n), (6, TV.h 21), (7, TV.int .i64 i), (8, TV.bool w2), (9, TV.int .i64 ((c : Int) + 1))] [(21, .arr false 23 PT f)] = mk6bo j ∧ ((j.1.2.2.2.length : Int) - j.2.2).toNat < m ∧ psi6bo j Φ := by
      intro w2 hw2 m hm
      subst hm
      refine ⟨((u, n, i, f), w2, (c : Int) + 1), rfl, ?_, ⟨trivial, hp, hf, ?_, ?_, ?_⟩, hΦ⟩
      · show ((f.length : Int) - ((c : Int) + 1)).toNat < ((f.length : Int) - (c : Int)).toNat; omega
      · show 0 ≤ (c : Int) + 1; omega
      · show (c : Int) + 1 ≤ (f.length : Int); omega
      · show w2 = Sp.isin (f.take ((c : Int) + 1).toNat) i
        rw [show ((c : Int) + 1).toNat = c + 1 by omega]; exact hw2
    have hw1 : W.nth f (W.toNat (c : Int)) ((0 : Int), (0 : Int), PUnit.unit) = W.nth f c ((0 : Int), (0 : Int), ()) := rfl
    rw [hw1]
    have hin := hf.2 _ (Sp.nth_mem h)
    generalize W.nth f c ((0 : Int), (0 : Int), ()) = r at hsucc hin ⊢
    obtain ⟨a, d, y⟩ := r
    simp only at hsucc hin ⊢
    refine brc_of (fun hw => nxt true (by rw [hsucc, hw]; rfl) rfl) fun hw => ?_
    rw [hw, Bool.false_or] at hsucc
    refine grd_ile (by omega) (grd_nlt h (grd_nlt h (brc_ige (fun hge => grd_ile (by omega) (grd_nlt h (grd_nlt h (grd_ile (by omega) (grd_nlt h (grd_nlt h ?_)))))) fun hge => nxt false (by rw [hsucc, decide_eq_false (by omega)]) rfl)))
    rw [W.sub_i64 (by omega) (by omega)]
    refine nxt _ ?_ rfl
    rw [hsucc]
    exact Sp.bool_dec (by omega)
  · have h : (f.length : Int) ≤ (c : Int) := h
    rw [List.take_of_length_le (by omega)] at hfr
    rw [hfr]; exact hΦ
theorem loop6do : ∀ s Φ, loopP 107 [1, 5, 6, 7, 8, 10, 11] [21] mk6do psi6do s Φ → Run Try.prog (.code (.block 4 (blkC (bodyOf Try.f6) 4))) s Φ := by
  refine run_loopB (lx := [1, 5, 6, 7, 8, 10]) (kx := [21]) known6o (fun j : I6 × Bool × Bool × Int => (j.1.1.length - j.2.2.2).toNat) (by kernel_rfl) (lamOk_free (by kernel_rfl)) ?_
  rintro ⟨⟨u, n, i, f⟩, fr, wt, k⟩ Φ ⟨⟨hp, k0, k1, hwt⟩, hΦ⟩
  simp only at hp k0 k1 hwt hΦ
  obtain ⟨hn, hu, hul, i0, i1⟩ := id hp
  obtain ⟨c, rfl⟩ : ∃ c : Nat, k = c := ⟨k.toNat, by omega⟩
  rw [Int.toNat_natCast] at hwt
  refine Eq.mpr (nf6do _ _ _ _ u n i f fr wt c Φ _) ?_
  rw [W.add_i64 (a := (c : Int)) (b := 1) (by omega) (by omega)]
  refine brc_ilt (fun h => ?_) fun h => ?_
  · have h : c < u.length := by have : ((c : Nat) : Int) < ((u.length : Nat) : Int) := h; omega
    refine brc_of (fun hw => ?_) fun hw => ?_
    · have hsucc := Sp.want_take (n := n) h i0
      rw [← hwt, hw, Bool.true_and] at hsucc
      have nxt : ∀ (w2 : Bool), w2 = Sp.wantB n (u.take (c + 1)) i → ∀ {m : Nat}, m = ((u.length : Int) - (c : Int)).toNat → ∃ j, mkS 107 [(1, TV.l 23 PT u), (5, TV.int .i64 n), (6, TV.h 21), (7, TV.int .i64 i), (8, TV.bool fr), (10, TV.bool w2), (11, TV.int .i64 ((c : Int) + 1))] [(21, .arr false 23 PT f)] = mk6do j ∧ ((j.1.1.length : Int) - j.2.2.2).toNat < m ∧ psi6do j Φ := by
        intro w2 hw2 m hm
        subst hm
        refine ⟨((u, n, i, f), fr, w2, (c : Int) + 1), rfl, ?_, ⟨hp, ?_, ?_, ?_⟩, hΦ⟩
        · show ((u.length : Int) - ((c : Int) + 1)).toNat < ((u.length : Int) - (c : Int)).toNat; omega
        · show 0 ≤ (c : Int) + 1; omega
        · show (c : Int) + 1 ≤ (u.length : Int); omega
        · show w2 = Sp.wantB n (u.take ((c : Int) + 1).toNat) i
          rw [show ((c : Int) + 1).toNat = c + 1 by omega]; exact hw2
      have hw1 : W.nth u (W.toNat (c : Int)) ((0 : Int), (0 : Int), PUnit.unit) = W.nth u c ((0 : Int), (0 : Int), ()) := rfl
      rw [hw1]
      have hin := hu _ (Sp.nth_mem h)
      generalize W.nth u c ((0 : Int), (0 : Int), ()) = r at hsucc hin ⊢
      obtain ⟨a, d, y⟩ := r
      obtain ⟨ha, hd⟩ : Sp.i64 a ∧ Sp.i64 d := hin
      simp only at hsucc ⊢
      have keep : ¬ (Sp.check a d n = 0 ∧ a ≤ i ∧ i < a + d) → wt = Sp.wantB n (u.take (c + 1)) i := fun hq => by rw [hsucc, hw, decide_eq_false hq]; rfl
      refine grd_ile (by omega) (grd_nlt h ⟨trivial, brc_ieq (fun hz => grd_ile (by omega) (grd_nlt h (brc_ige (fun hge => grd_ile (by omega) (grd_nlt h (grd_ile (by omega) (grd_nlt h ?_)))) fun hge => nxt _ (keep (by omega)) rfl))) fun hz => nxt _ (keep (by omega)) rfl⟩)
      have hs := check_in hz
      rw [W.sub_i64 (by omega) (by omega)]
      refine brc_ilt (fun hlt => nxt false ?_ rfl) fun hlt => nxt _ (keep (by omega)) rfl
      rw [hsucc, decide_eq_true (p := Sp.check a d n = 0 ∧ a ≤ i ∧ i < a + d) ⟨hz, by omega, by omega⟩]; rfl
    · have : Sp.wantB n u i = false := Sp.want_no (by rw [← hwt]; exact hw)
      rw [this] at hΦ
      rw [hw]; exact hΦ
  · have h : (u.length : Int) ≤ (c : Int) := h
    rw [List.take_of_length_le (by omega)] at hwt
    rw [hwt]; exact hΦ
theorem loop6ao : ∀ s Φ, loopP 107 [1, 5, 6, 7] [21] mk6ao psi6ao s Φ → Run Try.prog (.code (.block 0 (blkC (bodyOf Try.f6) 0))) s Φ := by
  refine run_loopB (lx := []) (kx := []) known6o (fun i : I6 => (260 - i.2.2.1).toNat) (by kernel_rfl) ?_ ?_
  · refine lamOk_of (fun id c' hm ψ hψ => ?_) (fun c' hm => ?_)
    · have hids : (blocksOf (loopOf (blkC (bodyOf Try.f6) 0))).map (·.1) = [1, 2, 3, 4, 5] := by kernel_rfl
      have hc : c' = blkC (loopOf (blkC (bodyOf Try.f6) 0)) id := findB_mem (by rw [hids]; rfl) hm
      have hid : id ∈ [1, 2, 3, 4, 5] := by rw [← hids]; exact List.mem_map.2 ⟨_, hm, rfl⟩
      simp only [List.mem_cons, List.not_mem_nil, or_false] at hid
      rcases hid with rfl | rfl | rfl | rfl | rfl
      · cases hψ
      · cases hψ
        rw [hc]
        have : blkC (loopOf (blkC (bodyOf Try.f6) 0)) 2 = blkC (bodyOf Try.f6) 2 := by kernel_rfl
        rw [this]; exact loop6bo
      · cases hψ
      · cases hψ
        rw [hc]
        have : blkC (loopOf (blkC (bodyOf Try.f6) 0)) 4 = blkC (bodyOf Try.f6) 4 := by kernel_rfl
        rw [this]; exact loop6do
      · cases hψ
    · have : scopesOf (loopOf (blkC (bodyOf Try.f6) 0)) = [] := by kernel_rfl
      rw [this] at hm; cases hm
  rintro ⟨u, n, i, f⟩ Φ ⟨⟨hc, hp, hf, hall⟩, hΦ⟩
  simp only at hc hp hf hall hΦ
  obtain ⟨hn, hu, hul, i0, i1⟩ := id hp
  refine Eq.mpr (nf6ao _ _ _ _ u n i f Φ _) ?_
  refine brc_ilt (fun h => ?_) fun h => hΦ
  refine ⟨((u, n, i, f), false, 0), rfl, ⟨trivial, hp, hf, Int.le_refl _, ?_, ?_⟩, ?_⟩
  · show (0 : Int) ≤ (f.length : Int); omega
  · show false = Sp.isin (f.take 0) i
    rw [List.take_zero]; rfl
  dsimp only
  have fin : ∀ {A : Prop} {m : Nat}, m = (260 - i).toNat → brc (W.bnot (W.beq (Sp.isin f i) (Sp.wantB n u i))) A (∃ j, mkS 107 [(1, TV.l 23 PT u), (5, TV.int .i64 n), (6, TV.h 21), (7, TV.int .i64 (W.add .i64 i 1))] [(21, .arr false 23 PT f)] = mk6ao j ∧ (260 - j.2.2.1).toNat < m ∧ psi6ao j Φ) := by
    intro A m hm
    subst hm
    rw [hall i i0 h, Sp.beq_self, W.add_i64 (a := i) (b := 1) (by omega) (by omega)]
    refine brc_no rfl ⟨(u, n, i + 1, f), rfl, ?_, ⟨trivial, ⟨hn, hu, hul, ?_, ?_⟩, hf, hall⟩, hΦ⟩
    · show (260 - (i + 1)).toNat < (260 - i).toNat; omega
    · show 0 ≤ i + 1; omega
    · show i + 1 ≤ 260; omega
  have wd : ∀ w : Bool, w = decide (2 ≤ i ∧ i < n) → w = Sp.wantB n (u.take 0) i := fun w hw => by
    rw [hw, List.take_zero]
    have : Sp.tk n [] i.toNat = false := by unfold Sp.tk; rfl
    unfold Sp.wantB
    rw [this]; simp
  refine brc_ige (fun h2 => ⟨((u, n, i, f), Sp.isin f i, W.ilt i n, 0), rfl, ⟨hp, Int.le_refl _, ?_, ?_⟩, ?_⟩) fun h2 => ⟨((u, n, i, f), Sp.isin f i, false, 0), rfl, ⟨hp, Int.le_refl _, ?_, ?_⟩, ?_⟩
  · show (0 : Int) ≤ (u.length : Int); omega
  · refine wd _ ?_
    exact Sp.bool_dec (by omega)
  · exact fin rfl
  · show (0 : Int) ≤ (u.length : Int); omega
  · refine wd _ ?_
    rw [decide_eq_false (by omega)]
  · exact fin rfl
def law6o : TCtr := lawC 6 [.v (.int .u8), .l 23 PT] (fun (d : Int × List Sp.Rm × Unit) => (0 ≤ d.1 ∧ d.1 < 256) ∧ Sp.inR d.2.1 ∧ Sp.frees d.1 d.2.1 ≠ [])
theorem good6o : GoodC Try.prog law6o := by
  refine good_byDB (c := law6o) (DL := []) (blk := blk6o) (lab := noneK) (fn := Try.f6) wide good6Lo (fun c h => by cases h) ⟨by kernel_rfl, by kernel_rfl, by kernel_rfl, by kernel_rfl⟩ (lamOk_body (by kernel_rfl) (by kernel_rfl) (fun id ψ h => ?_) (fun l rest ψ _ hl => by cases hl)) (fun d hd => ?_)
  · have h : blk6o id = some ψ := h
    unfold blk6o at h
    split at h
    · rename_i hb
      have := Nat.eq_of_beq_eq_true hb
      subst this
      cases h; exact loop6ao
    · split at h
      · rename_i hb
        have := Nat.eq_of_beq_eq_true hb
        subst this
        cases h; exact loop6bo
      · obtain ⟨rfl, rfl⟩ := one_some h
        exact loop6do
  · obtain ⟨b, u, x⟩ : Int × List Sp.Rm × Unit := d
    obtain ⟨hb, hu, hf⟩ : (0 ≤ b ∧ b < 256) ∧ Sp.inR u ∧ Sp.frees b u ≠ [] := hd
    refine Blk.nf (nf6o b u _) ⟨trivial, brc_igt (fun h => rfl) fun h => ?_⟩
    have h : (u.length : Int) ≤ 20 := h
    have eb : W.wrap .i64 b = b := W.wi64_in (by omega) (by omega)
    rw [eb]
    refine ⟨⟨hu, by omega, hf⟩, (u, b, 0, Sp.frees b u), rfl, ⟨trivial, ⟨hb, hu, by show u.length ≤ 20; omega, Int.le_refl _, by show (0 : Int) ≤ 260; omega⟩, Sp.frees_ok b u, fun y y0 y1 => Sp.frees_in hb y0 y1⟩, rfl⟩

def law6 : TCtr := lawC 6 [.v (.int .u8), .l 23 PT] (fun (d : Int × List Sp.Rm × Unit) => (0 ≤ d.1 ∧ d.1 < 256) ∧ Sp.inR d.2.1)
theorem good6 : GoodC Try.prog law6 where
  there := good6n.there
  cells := good6n.cells
  call := fun d hp S => by
    obtain ⟨b, u, x⟩ : Int × List Sp.Rm × Unit := d
    obtain ⟨hb, hu⟩ : (0 ≤ b ∧ b < 256) ∧ Sp.inR u := hp
    by_cases h : Sp.frees b u = []
    · exact good6n.call (b, u, x) ⟨hb, hu, h⟩ S
    · exact good6o.call (b, u, x) ⟨hb, hu, h⟩ S
end Go.Proofs.Ytpohkoijbocpcaa
