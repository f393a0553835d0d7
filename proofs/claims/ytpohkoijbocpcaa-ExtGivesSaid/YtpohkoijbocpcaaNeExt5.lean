/-
  Texts of a proof over the translated program: NeExt5.
-/
import Derived.Test.YtpohkoijbocpcaaNeExt5Nf
set_option linter.unusedVariables false
namespace Sp
open Go Go.AbsM
theorem nth_app_lt {l r : List Rm} {c : Nat} (h : c < l.length) : W.nth (l ++ r) c ((0 : Int), (0 : Int), ()) = W.nth l c ((0 : Int), (0 : Int), ()) := by
  unfold W.nth
  rw [List.getD_eq_getElem?_getD, List.getD_eq_getElem?_getD, List.getElem?_append_left h]
abbrev rise (f : List Rm) : Prop := ∀ c, c + 1 < f.length → (W.nth f c ((0 : Int), (0 : Int), ())).1 + (W.nth f c ((0 : Int), (0 : Int), ())).2.1 < (W.nth f (c + 1) ((0 : Int), (0 : Int), ())).1
theorem rise_app {l : List Rm} {w : Rm} (h : rise l) (hl : ∀ u, l.getLast? = some u → u.1 + u.2.1 < w.1) : rise (l ++ [w]) := by
  intro c hc
  have hL : (l ++ [w]).length = l.length + 1 := by simp
  by_cases h1 : c + 1 < l.length
  · rw [nth_app_lt (by omega), nth_app_lt h1]; exact h c h1
  · have h2 : c + 1 = l.length := by omega
    rw [nth_app_lt (by omega), h2, nth_last]
    refine hl _ ?_
    have h3 : l.getLast? = l[l.length - 1]? := List.getLast?_eq_getElem? 
    rw [h3, show l.length - 1 = c by omega]
    unfold W.nth
    rw [List.getD_eq_getElem?_getD, List.getElem?_eq_getElem (by omega)]; rfl
theorem rise_pre {l : List Rm} {v : Rm} (h : rise (l ++ [v])) : rise l ∧ ∀ u, l.getLast? = some u → u.1 + u.2.1 < v.1 := by
  have hL : (l ++ [v]).length = l.length + 1 := by simp
  refine ⟨fun c hc => ?_, fun u hu => ?_⟩
  · have := h c (by omega)
    rwa [nth_app_lt (by omega), nth_app_lt hc] at this
  · obtain ⟨l', rfl⟩ := List.getLast?_eq_some_iff.1 hu
    have hL2 : (l' ++ [u]).length = l'.length + 1 := by simp
    have := h l'.length (by omega)
    rw [nth_app_lt (by omega), nth_last] at this
    have e : W.nth (l' ++ [u] ++ [v]) (l'.length + 1) ((0 : Int), (0 : Int), ()) = v := by
      rw [← hL2]; exact nth_last _ _
    rwa [e] at this
theorem fr_rise {t : List Bool} : ∀ (k : Nat), rise (fr t k)
  | 0 => fun c hc => by simp [fr] at hc
  | k + 1 => by
    have ih := fr_rise (t := t) k
    cases ht : t.getD (2 + k) false with
    | true => rw [fr_pos ht]; exact ih
    | false =>
      rw [fr_neg ht]
      cases hl : (fr t k).getLast? with
      | none =>
        rw [List.getLast?_eq_none_iff.1 hl]
        intro c hc
        simp [snoc] at hc
      | some v =>
        obtain ⟨l', hl'⟩ := List.getLast?_eq_some_iff.1 hl
        have hv := (fr_last k v hl).1
        rw [hl'] at ih ⊢
        by_cases he : v.1 + v.2.1 = ((2 + k : Nat) : Int)
        · rw [snoc_glue he]
          obtain ⟨q1, q2⟩ := rise_pre ih
          exact rise_app q1 q2
        · rw [snoc_add he]
          refine rise_app ih fun u hu => ?_
          simp at hu
          subst hu
          show v.1 + v.2.1 < ((2 + k : Nat) : Int); omega
theorem frees_good {b : Int} {u : List Rm} : goodF b u (frees b u) := by
  have hi := imin_eq b 1024
  rw [frees_eq]
  have hlen := fr_len (t := mark (W.imin b 1024) u) (W.imin b 1024 - 2).toNat
  have hok := fr_ok (t := mark (W.imin b 1024) u) (W.imin b 1024 - 2).toNat
  refine ⟨by omega, fun v hv => ?_, fr_rise _, fun x hx v hv hc => ?_⟩
  · have q := hok v hv
    exact check_zero (by omega) (by omega) (by omega) (by omega)
  · cases ho : over x.1 x.2.1 v.1 v.2.1 with
    | false => rfl
    | true =>
      exfalso
      have q := over_iff.1 ho
      have qx := hok x hx
      have qv := check_small hc
      unfold small at qv
      -- the first block that is in both
      obtain ⟨y, hy⟩ : ∃ y : Int, y = max x.1 v.1 := ⟨_, rfl⟩
      have y0 : 0 ≤ y := by omega
      have hin : isin (fr (mark (W.imin b 1024) u) (W.imin b 1024 - 2).toNat) y = true := by
        unfold isin
        rw [List.any_eq_true]
        exact ⟨x, hx, decide_eq_true ⟨by omega, by omega⟩⟩
      rw [fr_any y0, mark_get (by omega)] at hin
      rw [Bool.and_eq_true, Bool.not_eq_true'] at hin
      have htk : tk (W.imin b 1024) u y.toNat = true := by
        unfold tk
        rw [List.any_eq_true]
        refine ⟨v, hv, decide_eq_true ⟨?_, by omega, by omega⟩⟩
        have h1 : W.imin (W.imin b 1024) 1024 = W.imin b 1024 := by rw [imin_eq (W.imin b 1024)]; omega
        unfold check at hc ⊢
        rw [h1]; exact hc
      rw [htk] at hin
      cases hin.2
end Sp
namespace Go.Proofs.Ytpohkoijbocpcaa
open Go.AbsM
attribute [local irreducible] Sp.mark Sp.fr Sp.frees Sp.tk
theorem good18 : GoodC Try.prog ctr18 where
  there := good18n.there
  cells := good18n.cells
  call := fun d hp S => by
    obtain ⟨a, x⟩ : List Sp.Rm × Unit := d
    have hp : a.length < 1000000 := hp
    by_cases h : a = []
    · have e : ctr18.out (a, x) = .a .nils := if_pos h
      exact Eq.mpr (congrArg (fun y => CallC Try.prog ctr18.f ((t1s ctr18.sig (a, x)).map (T1.emb [])) S S y) (congrArg (TV.emb []) e)) (good18n.call (a, x) h S)
    · have e : ctr18.out (a, x) = .o (.own 28 PT a) := if_neg h
      exact Eq.mpr (congrArg (fun y => CallC Try.prog ctr18.f ((t1s ctr18.sig (a, x)).map (T1.emb [])) S S y) (congrArg (TV.emb []) e)) (good18o.call (a, x) ⟨h, hp⟩ S)
theorem init17 {e : Int} {u : List Sp.Rm} (he : e ≤ 1024) (hu : Sp.inR u) (hl : u.length < 1000000) : e ≤ 1024 ∧ Sp.inR u ∧ u.length < 1000000 ∧ ∃ k : Nat, (2 : Int) = 2 + (k : Int) ∧ (k = 0 ∨ 2 + (k : Int) ≤ e) ∧ [] = Sp.fr (Sp.mark e u) k := ⟨he, hu, hl, 0, rfl, .inl rfl, by unfold Sp.fr; rfl⟩
theorem good17n : GoodC Try.prog ctr17n := by
  refine good_byDB (c := ctr17n) (DL := []) (blk := blk17) (lab := noneK) (fn := Try.f17) wide good17L (fun c h => by cases h) ⟨by kernel_rfl, by kernel_rfl, by kernel_rfl, by kernel_rfl⟩ (lamOk_body (by kernel_rfl) (by kernel_rfl) (fun id ψ h => blk17_some h) (fun l rest ψ _ hl => by cases hl)) (fun d hd => ?_)
  obtain ⟨b, u, x⟩ : Int × List Sp.Rm × Unit := d
  obtain ⟨hu, hl, hf⟩ : Sp.inR u ∧ u.length < 1000000 ∧ Sp.frees b u = [] := hd
  rw [Sp.frees_eq, Sp.imin_eq] at hf
  refine Blk.nf (nf17 b u _) (brc_igt (fun h => .inl ⟨(1024, u, 2), rfl, init17 (by show (1024 : Int) ≤ 1024; omega) hu hl, fun _ => rfl, fun h2 => absurd ?_ h2⟩) fun h => .inl ⟨(b, u, 2), rfl, init17 h hu hl, fun _ => rfl, fun h2 => absurd ?_ h2⟩)
  · rw [show min b 1024 = 1024 by omega] at hf; exact hf
  · rw [show min b 1024 = b by omega] at hf; exact hf
theorem good17o : GoodC Try.prog ctr17o := by
  refine good_byDB (c := ctr17o) (DL := []) (blk := blk17) (lab := noneK) (fn := Try.f17) wide good17L (fun c h => by cases h) ⟨by kernel_rfl, by kernel_rfl, by kernel_rfl, by kernel_rfl⟩ (lamOk_body (by kernel_rfl) (by kernel_rfl) (fun id ψ h => blk17_some h) (fun l rest ψ _ hl => by cases hl)) (fun d hd => ?_)
  obtain ⟨b, u, x⟩ : Int × List Sp.Rm × Unit := d
  obtain ⟨hu, hl, hf⟩ : Sp.inR u ∧ u.length < 1000000 ∧ Sp.frees b u ≠ [] := hd
  have hq : ∀ e, min b 1024 = e → Sp.fr (Sp.mark e u) (e - 2).toNat = Sp.frees b u := fun e he => by rw [Sp.frees_eq, Sp.imin_eq, he]
  have fin : ∀ e, min b 1024 = e → TV.o (.own 28 PT (Sp.fr (Sp.mark e u) (e - 2).toNat)) = ctr17o.out (b, u, x) := fun e he => congrArg (fun l : List Sp.Rm => TV.o (.own 28 PT l)) (hq e he)
  refine Blk.nf (nf17 b u _) (brc_igt (fun h => .inl ⟨(1024, u, 2), rfl, init17 (by show (1024 : Int) ≤ 1024; omega) hu hl, fun h2 => absurd ?_ hf, fun h2 => fin 1024 (by omega)⟩) fun h => .inl ⟨(b, u, 2), rfl, init17 h hu hl, fun h2 => absurd ?_ hf, fun h2 => fin b (by omega)⟩)
  · rw [← hq 1024 (by omega)]; exact h2
  · rw [← hq b (by omega)]; exact h2

theorem good4Ln : Goods Try.prog lawLn := .cons good9 (.cons good15n (.cons good18 (.cons good17n (.cons good16 (.cons good10 (.cons good13 .nil))))))
theorem known4n : KnownOk Try.prog (envL lawLn) (knownL lawLn blk4n noneK) := knownL_ok wide good4Ln _ _
theorem loop4bn : ∀ s Φ, loopP 85 [0, 1, 5, 6, 7] [] mk4bn psi4bn s Φ → Run Try.prog (.code (.block 2 (blkC (bodyOf Try.f4) 2))) s Φ := by
  refine run_loopB (lx := [0, 1, 5, 6]) (kx := []) known4n (fun j : I4n × Int => (j.1.2.1.length - j.2).toNat) (by kernel_rfl) (lamOk_free (by kernel_rfl)) ?_
  rintro ⟨⟨b, u, i⟩, k⟩ Φ ⟨⟨hp, i0, i1, k0, k1⟩, hΦ⟩
  simp only at hp i0 i1 k0 k1 hΦ
  exfalso
  have i1 : i < (0 : Int) := i1
  omega
theorem loop4an : ∀ s Φ, loopP 85 [0, 1, 5, 6] [] mk4an psi4an s Φ → Run Try.prog (.code (.block 0 (blkC (bodyOf Try.f4) 0))) s Φ := by
  refine run_loopB (lx := []) (kx := []) known4n (fun i : I4n => (0 - i.2.2).toNat) (by kernel_rfl) ?_ ?_
  · refine lamOk_of (fun id c' hm ψ hψ => ?_) (fun c' hm => ?_)
    · have hids : (blocksOf (loopOf (blkC (bodyOf Try.f4) 0))).map (·.1) = [1, 2, 3] := by kernel_rfl
      have hc : c' = blkC (loopOf (blkC (bodyOf Try.f4) 0)) id := findB_mem (by rw [hids]; rfl) hm
      have hid : id ∈ [1, 2, 3] := by rw [← hids]; exact List.mem_map.2 ⟨_, hm, rfl⟩
      simp only [List.mem_cons, List.not_mem_nil, or_false] at hid
      rcases hid with rfl | rfl | rfl
      · cases hψ
      · cases hψ
        rw [hc]
        have : blkC (loopOf (blkC (bodyOf Try.f4) 0)) 2 = blkC (bodyOf Try.f4) 2 := by kernel_rfl
        rw [this]; exact loop4bn
      · cases hψ
    · have : scopesOf (loopOf (blkC (bodyOf Try.f4) 0)) = [] := by kernel_rfl
      rw [this] at hm; cases hm
  rintro ⟨b, u, i⟩ Φ ⟨⟨hp, i0, i1⟩, hΦ⟩
  simp only at hp i0 i1 hΦ
  refine Eq.mpr (nf4an _ _ _ _ b u i Φ _) ?_
  exact brc_ilt (fun h => by exfalso; have h : i < 0 := h; omega) fun h => hΦ
theorem blk4n_some {id : Nat} {ψ : Piece} (h : blk4n id = some ψ) : ∀ s Φ, ψ s Φ → Run Try.prog (.code (.block id (blkC (bodyOf Try.f4) id))) s Φ := by
  unfold blk4n at h
  split at h
  · rename_i hb
    have := Nat.eq_of_beq_eq_true hb
    subst this
    cases h; exact loop4an
  · obtain ⟨rfl, rfl⟩ := one_some h
    exact loop4bn
def law4n : TCtr := lawC 4 [.v (.int .i64), .l 23 PT] (fun (d : Int × List Sp.Rm × Unit) => Sp.i64 d.1 ∧ Sp.inR d.2.1 ∧ Sp.frees d.1 d.2.1 = [])
theorem good4n : GoodC Try.prog law4n := by
  refine good_byDB (c := law4n) (DL := []) (blk := blk4n) (lab := noneK) (fn := Try.f4) wide good4Ln (fun c h => by cases h) ⟨by kernel_rfl, by kernel_rfl, by kernel_rfl, by kernel_rfl⟩ (lamOk_body (by kernel_rfl) (by kernel_rfl) (fun id ψ h => blk4n_some h) (fun l rest ψ _ hl => by cases hl)) (fun d hd => ?_)
  obtain ⟨b, u, x⟩ : Int × List Sp.Rm × Unit := d
  obtain ⟨hb, hu, hf⟩ : Sp.i64 b ∧ Sp.inR u ∧ Sp.frees b u = [] := hd
  refine Blk.nf (nf4n b u _) ⟨trivial, brc_igt (fun h => rfl) fun h => ?_⟩
  have h : (u.length : Int) ≤ 30 := h
  have hg := Sp.frees_good (b := b) (u := u)
  have hl1 := hg.1
  have same : Sp.sameR (Sp.frees b u) (Sp.frees b u) = true := Sp.sameR_yes rfl
  rw [hf] at hg
  have key : (Sp.inR u ∧ u.length < 1000000 ∧ Sp.frees b u = []) := ⟨hu, by omega, hf⟩
  have tail : ∃ i : I4n, mkS 85 [(0, TV.int .i64 b), (1, TV.l 23 PT u), (5, .a .nils), (6, TV.int .i64 0)] [] = mk4an i ∧ (Sp.pre4 i.1 i.2.1 [] ∧ 0 ≤ i.2.2 ∧ i.2.2 ≤ 0) ∧ TV.bool true = TV.bool true := ⟨(b, u, 0), rfl, ⟨⟨hb, hu, by show u.length ≤ 30; omega, hg⟩, Int.le_refl _, Int.le_refl _⟩, rfl⟩
  refine ⟨key, by omega, fun h0 => ?_, fun h0 => ⟨key, by show 1 ≤ 1000000; omega, tail⟩⟩
  have key0 := key
  rw [h0] at key0
  exact ⟨⟨key0.1, by decide, key0.2.2⟩, by show 1 ≤ 1000000; omega, tail⟩

theorem good4Lo : Goods Try.prog lawLo := .cons good9 (.cons good15o (.cons good18 (.cons good17o (.cons good16 (.cons good10 (.cons good13 .nil))))))
theorem known4o : KnownOk Try.prog (envL lawLo) (knownL lawLo blk4o noneK) := knownL_ok wide good4Lo _ _
theorem loop4bo : ∀ s Φ, loopP 85 [0, 1, 5, 6, 7] [15] mk4bo psi4bo s Φ → Run Try.prog (.code (.block 2 (blkC (bodyOf Try.f4) 2))) s Φ := by
  refine run_loopB (lx := [0, 1, 5, 6]) (kx := [15]) known4o (fun j : I4o × Int => (j.1.2.1.length - j.2).toNat) (by kernel_rfl) (lamOk_free (by kernel_rfl)) ?_
  rintro ⟨⟨b, u, i, f⟩, k⟩ Φ ⟨⟨hp, i0, i1, k0, k1⟩, hΦ⟩
  simp only at hp i0 i1 k0 k1 hΦ
  obtain ⟨hb, hu, hul, hf1, hf2, hf3, hf4⟩ := id hp
  obtain ⟨c, rfl⟩ : ∃ c : Nat, k = c := ⟨k.toNat, by omega⟩
  obtain ⟨n, rfl⟩ : ∃ n : Nat, i = n := ⟨i.toNat, by omega⟩
  have hn : n < f.length := by omega
  refine Eq.mpr (nf4bo _ _ _ _ b u n f c Φ _) ?_
  refine brc_ilt (fun h => ?_) fun h => hΦ
  have h : c < u.length := by have : ((c : Nat) : Int) < ((u.length : Nat) : Int) := h; omega
  have e1 : W.nth u (W.toNat (c : Int)) ((0 : Int), (0 : Int), PUnit.unit) = W.nth u c ((0 : Int), (0 : Int), ()) := rfl
  have e2 : W.nth f (W.toNat (n : Int)) ((0 : Int), (0 : Int), PUnit.unit) = W.nth f n ((0 : Int), (0 : Int), ()) := rfl
  rw [e1, e2, W.add_i64 (a := (c : Int)) (b := 1) (by omega) (by omega)]
  have hv := Sp.nth_mem h
  have hx := Sp.nth_mem hn
  generalize W.nth u c ((0 : Int), (0 : Int), ()) = v at hv ⊢
  generalize W.nth f n ((0 : Int), (0 : Int), ()) = x at hx ⊢
  have nxt : ∃ j, mkS 85 [(0, TV.int .i64 b), (1, TV.l 23 PT u), (5, TV.h 15), (6, TV.int .i64 (n : Int)), (7, TV.int .i64 ((c : Int) + 1))] [(15, .arr false 23 PT f)] = mk4bo j ∧ ((j.1.2.1.length : Int) - j.2).toNat < ((u.length : Int) - (c : Int)).toNat ∧ psi4bo j Φ := by
    refine ⟨((b, u, (n : Int), f), (c : Int) + 1), rfl, ?_, ⟨hp, i0, i1, ?_, ?_⟩, hΦ⟩
    · show ((u.length : Int) - ((c : Int) + 1)).toNat < ((u.length : Int) - (c : Int)).toNat; omega
    · show 0 ≤ (c : Int) + 1; omega
    · show (c : Int) + 1 ≤ (u.length : Int); omega
  have sx := Sp.check_small (hf2 x hx)
  unfold Sp.small at sx
  have ux := hu v hv
  refine grd_ile (by omega) (grd_nlt h ⟨trivial, brc_ieq (fun hz => grd_ile (by omega) (grd_nlt hn (grd_nlt hn (grd_ile (by omega) (grd_nlt h ⟨⟨?_, ?_, ux.1, ux.2⟩, ?_⟩))))) fun hz => nxt⟩)
  · unfold Sp.i64; omega
  · unfold Sp.i64; omega
  · exact brc_no (hf4 x hx v hv hz) nxt
theorem loop4ao : ∀ s Φ, loopP 85 [0, 1, 5, 6] [15] mk4ao psi4ao s Φ → Run Try.prog (.code (.block 0 (blkC (bodyOf Try.f4) 0))) s Φ := by
  refine run_loopB (lx := []) (kx := []) known4o (fun i : I4o => (i.2.2.2.length - i.2.2.1).toNat) (by kernel_rfl) ?_ ?_
  · refine lamOk_of (fun id c' hm ψ hψ => ?_) (fun c' hm => ?_)
    · have hids : (blocksOf (loopOf (blkC (bodyOf Try.f4) 0))).map (·.1) = [1, 2, 3] := by kernel_rfl
      have hc : c' = blkC (loopOf (blkC (bodyOf Try.f4) 0)) id := findB_mem (by rw [hids]; rfl) hm
      have hid : id ∈ [1, 2, 3] := by rw [← hids]; exact List.mem_map.2 ⟨_, hm, rfl⟩
      simp only [List.mem_cons, List.not_mem_nil, or_false] at hid
      rcases hid with rfl | rfl | rfl
      · cases hψ
      · cases hψ
        rw [hc]
        have : blkC (loopOf (blkC (bodyOf Try.f4) 0)) 2 = blkC (bodyOf Try.f4) 2 := by kernel_rfl
        rw [this]; exact loop4bo
      · cases hψ
    · have : scopesOf (loopOf (blkC (bodyOf Try.f4) 0)) = [] := by kernel_rfl
      rw [this] at hm; cases hm
  rintro ⟨b, u, i, f⟩ Φ ⟨⟨hp, i0, i1⟩, hΦ⟩
  simp only at hp i0 i1 hΦ
  obtain ⟨hb, hu, hul, hf1, hf2, hf3, hf4⟩ := id hp
  obtain ⟨n, rfl⟩ : ∃ n : Nat, i = n := ⟨i.toNat, by omega⟩
  refine Eq.mpr (nf4ao _ _ _ _ b u n f Φ _) ?_
  refine brc_ilt (fun h => ?_) fun h => hΦ
  have h : n < f.length := by have : ((n : Nat) : Int) < ((f.length : Nat) : Int) := h; omega
  have e1 : W.nth f (W.toNat (n : Int)) ((0 : Int), (0 : Int), PUnit.unit) = W.nth f n ((0 : Int), (0 : Int), ()) := rfl
  rw [e1]
  have hx := Sp.nth_mem h
  have inner : ∃ j : I4o × Int, mkS 85 [(0, TV.int .i64 b), (1, TV.l 23 PT u), (5, TV.h 15), (6, TV.int .i64 (n : Int)), (7, TV.int .i64 0)] [(15, .arr false 23 PT f)] = mk4bo j ∧ (Sp.pre4 j.1.1 j.1.2.1 j.1.2.2.2 ∧ 0 ≤ j.1.2.2.1 ∧ j.1.2.2.1 < (j.1.2.2.2.length : Int) ∧ 0 ≤ j.2 ∧ j.2 ≤ (j.1.2.1.length : Int)) ∧ ∃ q, mkS 85 [(0, TV.int .i64 j.1.1), (1, TV.l 23 PT j.1.2.1), (5, TV.h 15), (6, TV.int .i64 (W.add .i64 j.1.2.2.1 1))] [(15, .arr false 23 PT j.1.2.2.2)] = mk4ao q ∧ ((q.2.2.2.length : Int) - q.2.2.1).toNat < ((f.length : Int) - (n : Int)).toNat ∧ psi4ao q Φ := by
    refine ⟨((b, u, (n : Int), f), 0), rfl, ⟨hp, i0, ?_, Int.le_refl _, ?_⟩, ?_⟩
    · show (n : Int) < (f.length : Int); omega
    · show (0 : Int) ≤ (u.length : Int); omega
    · dsimp only
      rw [W.add_i64 (a := (n : Int)) (b := 1) (by omega) (by omega)]
      refine ⟨(b, u, (n : Int) + 1, f), rfl, ?_, ⟨hp, ?_, ?_⟩, hΦ⟩
      · show ((f.length : Int) - ((n : Int) + 1)).toNat < ((f.length : Int) - (n : Int)).toNat; omega
      · show 0 ≤ (n : Int) + 1; omega
      · show (n : Int) + 1 ≤ (f.length : Int); omega
  refine grd_ile (by omega) (grd_nlt h (grd_nlt h ⟨trivial, brc_ine (fun hz => absurd (hf2 _ hx) hz) fun hz => brc_igt (fun hg => ?_) fun hg => inner⟩))
  obtain ⟨m, rfl⟩ : ∃ m, n = m + 1 := ⟨n - 1, by have hg : (0 : Int) < (n : Int) := hg; omega⟩
  have es : W.sub .i64 ((m + 1 : Nat) : Int) 1 = (m : Int) := by rw [W.sub_i64 (by omega) (by omega)]; omega
  rw [es]
  have e2 : W.nth f (W.toNat (m : Int)) ((0 : Int), (0 : Int), PUnit.unit) = W.nth f m ((0 : Int), (0 : Int), ()) := rfl
  rw [e2]
  have hm : m < f.length := by omega
  have hx2 := Sp.check_small (hf2 _ (Sp.nth_mem hm))
  unfold Sp.small at hx2
  have hr := hf3 m h
  rw [W.add_i64 (a := (W.nth f m ((0 : Int), (0 : Int), ())).1) (by omega) (by omega)]
  refine grd_ile (by omega) (grd_nlt hm (grd_nlt hm (grd_ile (by omega) (grd_nlt hm (grd_nlt hm (grd_ile (by omega) (grd_nlt h (grd_nlt h (brc_ige (fun hq => ?_) fun hq => inner)))))))))
  exfalso; omega
theorem blk4o_some {id : Nat} {ψ : Piece} (h : blk4o id = some ψ) : ∀ s Φ, ψ s Φ → Run Try.prog (.code (.block id (blkC (bodyOf Try.f4) id))) s Φ := by
  unfold blk4o at h
  split at h
  · rename_i hb
    have := Nat.eq_of_beq_eq_true hb
    subst this
    cases h; exact loop4ao
  · obtain ⟨rfl, rfl⟩ := one_some h
    exact loop4bo
def law4o : TCtr := lawC 4 [.v (.int .i64), .l 23 PT] (fun (d : Int × List Sp.Rm × Unit) => Sp.i64 d.1 ∧ Sp.inR d.2.1 ∧ Sp.frees d.1 d.2.1 ≠ [])
theorem good4o : GoodC Try.prog law4o := by
  refine good_byDB (c := law4o) (DL := []) (blk := blk4o) (lab := noneK) (fn := Try.f4) wide good4Lo (fun c h => by cases h) ⟨by kernel_rfl, by kernel_rfl, by kernel_rfl, by kernel_rfl⟩ (lamOk_body (by kernel_rfl) (by kernel_rfl) (fun id ψ h => blk4o_some h) (fun l rest ψ _ hl => by cases hl)) (fun d hd => ?_)
  obtain ⟨b, u, x⟩ : Int × List Sp.Rm × Unit := d
  obtain ⟨hb, hu, hf⟩ : Sp.i64 b ∧ Sp.inR u ∧ Sp.frees b u ≠ [] := hd
  refine Blk.nf (nf4o b u _) ⟨trivial, brc_igt (fun h => rfl) fun h => ?_⟩
  have h : (u.length : Int) ≤ 30 := h
  have hg := Sp.frees_good (b := b) (u := u)
  have hl1 := hg.1
  have same : Sp.sameR (Sp.frees b u) (Sp.frees b u) = true := Sp.sameR_yes rfl
  have key : (Sp.inR u ∧ u.length < 1000000 ∧ Sp.frees b u ≠ []) := ⟨hu, by omega, hf⟩
  have tail : ∃ i : I4o, mkS 85 [(0, TV.int .i64 b), (1, TV.l 23 PT u), (5, TV.h 15), (6, TV.int .i64 0)] [(15, .arr false 23 PT (Sp.frees b u))] = mk4ao i ∧ (Sp.pre4 i.1 i.2.1 i.2.2.2 ∧ 0 ≤ i.2.2.1 ∧ i.2.2.1 ≤ (i.2.2.2.length : Int)) ∧ TV.bool true = TV.bool true := ⟨(b, u, 0, Sp.frees b u), rfl, ⟨⟨hb, hu, by show u.length ≤ 30; omega, hg⟩, Int.le_refl _, by show (0 : Int) ≤ ((Sp.frees b u).length : Int); omega⟩, rfl⟩
  have sm : ∀ {A B : Prop}, B → brc (W.bnot (Sp.sameR (Sp.frees b u) (Sp.frees b u))) A B := fun hB => by rw [same]; exact brc_no rfl hB
  refine ⟨key, by omega, fun h0 => ?_, fun h0 => ⟨key, by omega, sm tail⟩⟩
  have key0 := key
  rw [h0] at key0
  refine ⟨⟨key0.1, by decide, key0.2.2⟩, by omega, ?_⟩
  have e0 : Sp.frees b [] = Sp.frees b u := by rw [h0]
  rw [e0]
  exact sm tail

def law4 : TCtr := lawC 4 [.v (.int .i64), .l 23 PT] (fun (d : Int × List Sp.Rm × Unit) => Sp.i64 d.1 ∧ Sp.inR d.2.1)
theorem good4 : GoodC Try.prog law4 where
  there := good4n.there
  cells := good4n.cells
  call := fun d hp S => by
    obtain ⟨b, u, x⟩ : Int × List Sp.Rm × Unit := d
    obtain ⟨hb, hu⟩ : Sp.i64 b ∧ Sp.inR u := hp
    by_cases h : Sp.frees b u = []
    · exact good4n.call (b, u, x) ⟨hb, hu, h⟩ S
    · exact good4o.call (b, u, x) ⟨hb, hu, h⟩ S
end Go.Proofs.Ytpohkoijbocpcaa
