/-
  Texts of a proof over the translated program: NeExt2.
-/
import Derived.Test.YtpohkoijbocpcaaNeSp2
set_option linter.unusedVariables false
namespace Go.Proofs.Ytpohkoijbocpcaa
open Go.AbsM
attribute [local irreducible] Sp.mark Sp.fr Sp.frees
theorem good22 : GoodL Try.prog lctr22 := by
  refine goodL_loop (c := lctr22) (fn := Try.f22) [7] [500000] (fun i : I22 => (i.2.2.1 - i.2.1 - i.2.2.2).toNat) wide .nil .nil ⟨by kernel_rfl, by kernel_rfl, by kernel_rfl, by kernel_rfl⟩ (by kernel_rfl) (by kernel_rfl) (by kernel_rfl) (by kernel_rfl) (n := 26) (ls := [0, 1, 2, 7]) (ks := [500000]) (mk := mk22) (ψ := psi22) (id := 0) ?_ (fun d hd => Blk.un ?_)
  · rintro ⟨t, a, e, k⟩ Φ ⟨⟨hl, a0, hk, he, k0⟩, hΦ⟩
    simp only at hl a0 hk he k0 hΦ
    refine Eq.mpr (nf22s _ _ _ _ t a e k Φ _) ?_
    rw [W.add_i64 (a := a) (b := k) (by omega) (by omega), W.add_i64 (a := k) (b := 1) (by omega) (by omega)]
    refine brc_ilt (fun h => grd_ile (by omega) (grd_ilt (by omega) (grd_nlt (by show (a + k).toNat < t.length; omega) ?_))) fun h => ?_
    · cases ht : t.getD (a + k).toNat false with
      | true =>
        have e1 : W.bnot (W.nth t (W.toNat (a + k)) false) = false := by show (!(t.getD (a + k).toNat false)) = false; rw [ht]; rfl
        rw [Sp.room_stop h ht, Int.add_zero] at hΦ
        exact brc_no e1 hΦ
      | false =>
        have e1 : W.bnot (W.nth t (W.toNat (a + k)) false) = true := by show (!(t.getD (a + k).toNat false)) = true; rw [ht]; rfl
        rw [Sp.room_next (by omega) h ht] at hΦ
        refine brc_yes e1 ⟨(t, a, e, k + 1), rfl, ?_, ⟨hl, a0, ?_, he, ?_⟩, ?_⟩
        · show (e - a - (k + 1)).toNat < (e - a - k).toNat; omega
        · show a + (k + 1) ≤ e; omega
        · show 0 ≤ k + 1; omega
        · show Φ .normal (mkS 26 [(7, TV.int .i64 (k + 1 + Sp.room t (a + (k + 1)) e))] [(500000, .hb .bool t)])
          have e2 : k + 1 + Sp.room t (a + (k + 1)) e = k + (1 + Sp.room t (a + k + 1) e) := by rw [show a + (k + 1) = a + k + 1 by omega]; omega
          rw [e2]; exact hΦ
    · rw [Sp.room_end (by omega), Int.add_zero] at hΦ
      exact hΦ
  · obtain ⟨t, a, e, x⟩ : List Bool × Int × Int × Unit := d
    obtain ⟨hl, a0, hae, he⟩ : t.length = 1024 ∧ 0 ≤ a ∧ a ≤ e ∧ e ≤ 1024 := hd
    refine Blk.nf (nf22 t a e _) ⟨(t, a, e, 0), rfl, ⟨hl, a0, ?_, he, ?_⟩, ?_⟩
    · show a + 0 ≤ e; omega
    · show (0 : Int) ≤ 0; omega
    · refine ⟨rfl, ?_⟩
      show TV.int .i64 (0 + Sp.room t (a + 0) e) = TV.int .i64 (Sp.room t a e)
      rw [Int.zero_add, Int.add_zero]

theorem good15L : Goods Try.prog [ctr10] := .cons good10 .nil
theorem good15D : GoodDs Try.prog [lctr22] := .cons good22 .nil
theorem known15 : KnownOk Try.prog (envD [ctr10] [lctr22]) (knownD [ctr10] [lctr22] blk15 lab15) := knownD_ok wide good15L good15D _ _
theorem inner15 : ∀ s Φ, loopP 57 [5, 6, 8, 15, 16, 17, 26, 27] [6, 8] mk15b psi15b s Φ → Run Try.prog (.code (.block 2 (blkC (bodyOf Try.f15) 2))) s Φ := by
  refine run_loopB (lx := [5, 6, 15, 16, 17]) (kx := [6]) known15 (fun i : I15b => (i.2.2.1 - i.2.2.2).toNat) (by kernel_rfl) (lamOk_free (by kernel_rfl)) ?_
  rintro ⟨⟨e, u, k, t⟩, a, n, i⟩ Φ ⟨⟨hl, ha, hn, han, i0, i1⟩, hΦ⟩
  simp only at hl ha hn han i0 i1 hΦ
  refine Eq.mpr (nf15b _ _ _ _ e u k t a n i Φ _) ?_
  rw [W.add_i64 (a := a) (b := i) (by omega) (by omega)]
  refine brc_ilt (fun h => grd_ile (by omega) (grd_ilt (by omega) (grd_nlt (by show (a + i).toNat < t.length; omega) ?_))) fun h => ?_
  · rw [W.add_i64 (a := i) (b := 1) (by omega) (by omega)]
    have e1 : Sp.fill t (a + i).toNat (n - i).toNat = Sp.fill (W.upd t (W.toNat (a + i)) true) (a + (i + 1)).toNat (n - (i + 1)).toNat := by
      have h1 : (n - i).toNat = (n - (i + 1)).toNat + 1 := by omega
      have h2 : (a + (i + 1)).toNat = (a + i).toNat + 1 := by omega
      rw [h1, h2]; rfl
    rw [e1] at hΦ
    refine ⟨((e, u, k, W.upd t (W.toNat (a + i)) true), a, n, i + 1), rfl, ?_, ⟨?_, ha, hn, han, ?_, ?_⟩, hΦ⟩
    · show (n - (i + 1)).toNat < (n - i).toNat; omega
    · show (t.set _ true).length = 1024; rw [List.length_set]; exact hl
    · show 0 ≤ i + 1; omega
    · show i + 1 ≤ n; omega
  · have h1 : (n - i).toNat = 0 := by omega
    rw [h1] at hΦ
    exact hΦ
theorem check_in {a n k : Int} (h : Sp.check a n k = 0) : 2 ≤ a ∧ 1 ≤ n ∧ a + n ≤ 1024 := Sp.check_small h
theorem outer15 : ∀ s Φ, loopP 57 [5, 6, 15, 16, 17] [6] mk15a psi15a s Φ → Run Try.prog (.code (.block 0 (blkC (bodyOf Try.f15) 0))) s Φ := by
  refine run_loopB (lx := [5, 6]) (kx := [6]) known15 (fun i : I15a => (i.2.1.length - i.2.2.1).toNat) (by kernel_rfl) ?_ ?_
  · refine lamOk_of (fun id c' hm ψ hψ => ?_) (fun c' hm => ?_)
    · have hids : (blocksOf (loopOf (blkC (bodyOf Try.f15) 0))).map (·.1) = [1, 2, 3] := by kernel_rfl
      have hc : c' = blkC (loopOf (blkC (bodyOf Try.f15) 0)) id := findB_mem (by rw [hids]; rfl) hm
      have hid : id ∈ [1, 2, 3] := by rw [← hids]; exact List.mem_map.2 ⟨_, hm, rfl⟩
      simp only [List.mem_cons, List.not_mem_nil, or_false] at hid
      rcases hid with rfl | rfl | rfl
      · cases hψ
      · cases hψ
        rw [hc]
        have : blkC (loopOf (blkC (bodyOf Try.f15) 0)) 2 = blkC (bodyOf Try.f15) 2 := by kernel_rfl
        rw [this]; exact inner15
      · cases hψ
    · have : scopesOf (loopOf (blkC (bodyOf Try.f15) 0)) = [] := by kernel_rfl
      rw [this] at hm; cases hm
  rintro ⟨e, u, k, t⟩ Φ ⟨⟨he, hu, hul, k0, k1, ht⟩, hΦ⟩
  simp only at he hu hul k0 k1 ht hΦ
  obtain ⟨n, rfl⟩ : ∃ n : Nat, k = n := ⟨k.toNat, by omega⟩
  rw [Int.toNat_natCast] at ht
  refine Eq.mpr (nf15a _ _ _ _ e u n t Φ _) ?_
  subst ht
  refine brc_ilt (fun h => ?_) fun h => ?_
  · have h : n < u.length := by have : ((n : Nat) : Int) < ((u.length : Nat) : Int) := h; omega
    rw [W.add_i64 (a := (n : Int)) (b := 1) (by omega) (by omega)]
    refine grd_ile (by omega) (grd_nlt h ⟨trivial, ?_⟩)
    have hw : W.nth u (W.toNat (n : Int)) ((0 : Int), (0 : Int), PUnit.unit) = W.nth u n ((0 : Int), (0 : Int), ()) := rfl
    rw [hw]
    have htk := Sp.take_succ h
    have nxt : ∀ {m : Nat}, m = ((u.length : Int) - (n : Int)).toNat → ∃ j, mkS 57 [(5, TV.int .i64 e), (6, TV.o (T1.c (TC.a (AV.ref 0 6 0)))), (15, TV.l 23 PT u), (16, TV.int .i64 (Int.ofNat (List.length u))), (17, TV.int .i64 ((n : Int) + 1))] [(6, TOb.hb VT.bool (Sp.mark e (u.take (n + 1))))] = mk15a j ∧ ((j.2.1.length : Int) - j.2.2.1).toNat < m ∧ psi15a j Φ := by
      intro m hm
      subst hm
      refine ⟨(e, u, (n : Int) + 1, Sp.mark e (u.take (n + 1))), rfl, ?_, ⟨he, hu, hul, ?_, ?_, ?_⟩, hΦ⟩
      · show ((u.length : Int) - ((n : Int) + 1)).toNat < ((u.length : Int) - (n : Int)).toNat; omega
      · show 0 ≤ (n : Int) + 1; omega
      · show (n : Int) + 1 ≤ (u.length : Int); omega
      · show Sp.mark e (u.take (n + 1)) = Sp.mark e (u.take ((n : Int) + 1).toNat)
        rw [show ((n : Int) + 1).toNat = n + 1 by omega]
    generalize W.nth u n ((0 : Int), (0 : Int), ()) = r at htk ⊢
    obtain ⟨a, c, y⟩ := r
    refine brc_ieq (fun hz => ?_) fun hz => ?_
    · have hz : Sp.check a c e = 0 := hz
      obtain ⟨c1, c2, c3⟩ := check_in hz
      refine ⟨((e, u, (n : Int), Sp.mark e (u.take n)), a, c, 0), rfl, ⟨Sp.mark_len _ _, c1, c2, c3, Int.le_refl _, ?_⟩, ?_⟩
      · show (0 : Int) ≤ c; omega
      · have hm : Sp.fill (Sp.mark e (u.take n)) (a + 0).toNat (c - 0).toNat = Sp.mark e (u.take (n + 1)) := by
          rw [htk, Int.add_zero, Int.sub_zero]
          exact Sp.mark_fill (u := (a, c, y)) hz (by show 0 ≤ a; omega) (by show 0 ≤ c; omega)
        have hg : ∃ j, mkS 57 [(5, TV.int .i64 e), (6, TV.o (T1.c (TC.a (AV.ref 0 6 0)))), (15, TV.l 23 PT u), (16, TV.int .i64 (Int.ofNat (List.length u))), (17, TV.int .i64 (W.add .i64 (n : Int) 1))] [(6, TOb.hb VT.bool (Sp.fill (Sp.mark e (u.take n)) (a + 0).toNat (c - 0).toNat))] = mk15a j ∧ ((j.2.1.length : Int) - j.2.2.1).toNat < ((u.length : Int) - (n : Int)).toNat ∧ psi15a j Φ := by
          rw [hm, W.add_i64 (a := (n : Int)) (b := 1) (by omega) (by omega)]
          exact nxt rfl
        exact hg
    · have hz : Sp.check a c e ≠ 0 := hz
      have hm : Sp.mark e (u.take n) = Sp.mark e (u.take (n + 1)) := by
        rw [htk]; exact (Sp.mark_skip (u := (a, c, y)) hz).symm
      rw [hm]
      exact nxt rfl
  · have h : (u.length : Int) ≤ (n : Int) := h
    rw [List.take_of_length_le (by omega)]
    exact hΦ

abbrev J15 := (Int × List Bool × Int) ⊕ (Int × List Bool × Int × List Sp.Rm)
def mkj15 : J15 → TSt
  | .inl i => mk15n i
  | .inr i => mk15o i
def psij15 : J15 → Post → Prop
  | .inl i => psi15n i
  | .inr i => psi15o i
def muj15 : J15 → Nat
  | .inl i => (1031 - i.2.2).toNat
  | .inr i => (1031 - i.2.2.1).toNat
theorem cleanT_mono {n : Nat} {ls ks : List Nat} {s : TSt} {K K' : TSt → Prop} (h : ∀ s2, K s2 → K' s2) (hc : cleanT n ls ks s K) : cleanT n ls ks s K' := by
  unfold cleanT at hc ⊢
  simp only at hc ⊢
  split at hc
  · rename_i hq
    rw [if_pos hq]; exact h _ hc
  · exact hc.elim
theorem piece15_loop {s : TSt} {Φ : Post} (h : piece15 s Φ) : loopP 57 [5, 6, 10, 11] [6, 51] mkj15 psij15 s Φ :=
  cleanT_mono (fun s2 h => by
    rcases h with ⟨i, h1, h2⟩ | ⟨i, h1, h2⟩
    · exact ⟨.inl i, h1, h2⟩
    · exact ⟨.inr i, h1, h2⟩) h
theorem end15_at {e a : Int} {t : List Bool} {o : List Sp.Rm} {Φ : Post} (hf : Sp.frOk e t a o) (h : e ≤ a) (hE : end15 e t Φ) : (o = [] → Φ .ret (mkS 57 [(4, .a .nils)] [])) ∧ (o ≠ [] → Φ .ret (mkS 57 [(4, TV.h 51)] [(51, .arr false 23 PT o)])) := by
  rw [Sp.frOk_end hf h]; exact hE
theorem step15n (e : Int) (t : List Bool) (a : Int) (Φ : Post) (hi : inv15 e t a []) (hE : end15 e t Φ) : wpT Try.prog (knownD [ctr10] [lctr22] blk15 lab15) (restC (bodyOf Try.f15) 0) (mk15n (e, t, a)) (jumpK (knownD [ctr10] [lctr22] blk15 lab15) 57 [5, 6, 10, 11] [6, 51] [4] [51] (scC (bodyOf Try.f15)) 0 mkj15 muj15 psij15 (1031 - a).toNat Φ) := by
  obtain ⟨hl, he, ho, ha, hf⟩ := hi
  have a0 : 0 ≤ a := by simpa using ho
  refine Eq.mpr (nf15n _ mkj15 psij15 muj15 e t a Φ _) ?_
  refine brc_ige (fun h => (end15_at hf h hE).1 rfl) fun h => ⟨⟨hl, a0, by omega, he⟩, ?_⟩
  obtain ⟨q1, q2, q3, q4⟩ := Sp.frOk_step hf h
  refine brc_igt (fun hr => ?_) fun hr => ?_
  · rw [W.add_i64 (a := a) (by omega) (by omega), W.add_i64 (b := 1) (by omega) (by omega)]
    have h1 := q1 hr
    refine ⟨.inr (e, t, a + Sp.room t a e + 1, [(a, Sp.room t a e, ())]), rfl, ?_, ⟨by simp, hl, he, Sp.frOk_len h1, ?_, h1⟩, hE⟩
    · show (1031 - (a + Sp.room t a e + 1)).toNat < (1031 - a).toNat; omega
    · show a + Sp.room t a e + 1 ≤ 1030; omega
  · have h1 := q2 (by omega)
    rw [W.add_i64 (a := a) (b := 1) (by omega) (by omega)]
    refine ⟨.inl (e, t, a + 1), rfl, ?_, ⟨hl, he, Sp.frOk_len h1, ?_, h1⟩, hE⟩
    · show (1031 - (a + 1)).toNat < (1031 - a).toNat; omega
    · show a + 1 ≤ 1030; omega
theorem step15o (e : Int) (t : List Bool) (a : Int) (o : List Sp.Rm) (Φ : Post) (hn : o ≠ []) (hi : inv15 e t a o) (hE : end15 e t Φ) : wpT Try.prog (knownD [ctr10] [lctr22] blk15 lab15) (restC (bodyOf Try.f15) 0) (mk15o (e, t, a, o)) (jumpK (knownD [ctr10] [lctr22] blk15 lab15) 57 [5, 6, 10, 11] [6, 51] [4] [51] (scC (bodyOf Try.f15)) 0 mkj15 muj15 psij15 (1031 - a).toNat Φ) := by
  obtain ⟨hl, he, ho, ha, hf⟩ := hi
  have a0 : 0 ≤ a := by omega
  refine Eq.mpr (nf15o _ mkj15 psij15 muj15 e t a o Φ _) ?_
  refine brc_ige (fun h => (end15_at hf h hE).2 hn) fun h => ⟨⟨hl, a0, by omega, he⟩, ?_⟩
  obtain ⟨q1, q2, q3, q4⟩ := Sp.frOk_step hf h
  refine brc_igt (fun hr => grd_nle ?_ ?_) fun hr => ?_
  · show (o.length + 1) * 16 ≤ 140737488355328; omega
  · rw [W.add_i64 (a := a) (by omega) (by omega), W.add_i64 (b := 1) (by omega) (by omega)]
    have h1 := q1 hr
    refine ⟨.inr (e, t, a + Sp.room t a e + 1, o ++ [(a, Sp.room t a e, ())]), rfl, ?_, ⟨by simp, hl, he, Sp.frOk_len h1, ?_, h1⟩, hE⟩
    · show (1031 - (a + Sp.room t a e + 1)).toNat < (1031 - a).toNat; omega
    · show a + Sp.room t a e + 1 ≤ 1030; omega
  · have h1 := q2 (by omega)
    rw [W.add_i64 (a := a) (b := 1) (by omega) (by omega)]
    refine ⟨.inr (e, t, a + 1, o), rfl, ?_, ⟨hn, hl, he, Sp.frOk_len h1, ?_, h1⟩, hE⟩
    · show (1031 - (a + 1)).toNat < (1031 - a).toNat; omega
    · show a + 1 ≤ 1030; omega
theorem jump15 : ∀ rest, findLabel (scC (bodyOf Try.f15)) 0 = some rest → ∀ s Φ, piece15 s Φ → Run Try.prog (.within (scC (bodyOf Try.f15)) rest) s Φ := by
  intro rest hr s Φ hp
  have h3 : findLabel (scC (bodyOf Try.f15)) 0 = some (restC (bodyOf Try.f15) 0) := by kernel_rfl
  rw [h3] at hr
  simp only [Option.some.injEq] at hr; subst hr
  refine run_jump (lx := [4]) (kx := [51]) known15 muj15 (lamOk_free (by kernel_rfl)) h3 (fun l'' rest' ψ'' hne hf' hl' => ?_) ?_ s Φ (piece15_loop hp)
  · obtain ⟨rfl, _⟩ := one_some hl'
    exact absurd rfl hne
  · rintro (⟨e, t, a⟩ | ⟨e, t, a, o⟩) Φ h
    · exact step15n e t a Φ h.1 h.2
    · exact step15o e t a o Φ h.1.1 h.1.2 h.2
def freeV (l : List Sp.Rm) : TV := if l = [] then .a .nils else .o (.own 23 PT l)
def ctr15 : TCtr where
  f := 15
  sig := [.v (.int .i64), .l 23 PT]
  pre := fun (d : Int × List Sp.Rm × Unit) => Sp.inR d.2.1 ∧ d.2.1.length < 1000000
  out := fun (d : Int × List Sp.Rm × Unit) => freeV (Sp.frees d.1 d.2.1)
  outK := fun (d : Int × List Sp.Rm × Unit) K => (Sp.frees d.1 d.2.1 = [] → K (.a .nils)) ∧ (Sp.frees d.1 d.2.1 ≠ [] → K (.o (.own 23 PT (Sp.frees d.1 d.2.1))))
  outK_ok := fun (d : Int × List Sp.Rm × Unit) K h => by
    show K (if Sp.frees d.1 d.2.1 = [] then _ else _)
    split
    · exact h.1 (by assumption)
    · exact h.2 (by assumption)
  outOk := fun (d : Int × List Sp.Rm × Unit) => by
    show TV.outOk (if Sp.frees d.1 d.2.1 = [] then _ else _) = true
    split <;> rfl
theorem good_byDB {P : Program} {L : List TCtr} {DL : List LCtr} {blk lab : Nat → Option Piece} {c : TCtr} {fn : Func} (hw : P.follows .mixedOrders = true) (hL : Goods P L) (hD : GoodDs P DL) (hf : Fits P c.f c.sig fn) (hLam : LamOk P (knownD L DL blk lab) (bodyOf fn))
    (run : ∀ d, c.pre d → Blk (wpFn P (knownD L DL blk lab) fn (t1s c.sig d) (fun x => x = c.out d))) : GoodC P c :=
  good_byD hw hL hD hf hLam fun d hp => (run d hp).un
theorem good15 : GoodC Try.prog ctr15 := by
  refine good_byDB (c := ctr15) (blk := blk15) (lab := lab15) (fn := Try.f15) wide good15L good15D ⟨by kernel_rfl, by kernel_rfl, by kernel_rfl, by kernel_rfl⟩ (lamOk_body (by kernel_rfl) (by kernel_rfl) (fun id ψ h => ?_) (fun l rest ψ hl h => ?_)) (fun d hd => ?_)
  · have h : blk15 id = some ψ := h
    unfold blk15 at h
    split at h
    · rename_i hb
      have := Nat.eq_of_beq_eq_true hb
      subst this
      cases h; exact outer15
    · obtain ⟨rfl, rfl⟩ := one_some h
      exact inner15
  · obtain ⟨rfl, rfl⟩ := one_some (h : lab15 l = some ψ)
    exact jump15 rest hl
  · obtain ⟨b, u, x⟩ : Int × List Sp.Rm × Unit := d
    obtain ⟨hu, hul⟩ : Sp.inR u ∧ u.length < 1000000 := hd
    have hk : Sp.frees b u = [] → TV.a .nils = freeV (Sp.frees b u) := fun h => by rw [h]; rfl
    have ho : Sp.frees b u ≠ [] → TV.o (.own 23 PT (Sp.frees b u)) = freeV (Sp.frees b u) := fun h => by unfold freeV; rw [if_neg h]
    have hE : Sp.fr (Sp.mark (W.imin b 1024) u) (W.imin b 1024 - 2).toNat = Sp.frees b u := (Sp.frees_eq b u).symm
    have hb : W.imin b 1024 ≤ 1024 := by rw [Sp.imin_eq]; omega
    refine Blk.nf (nf15 b u _) ?_
    generalize W.imin b 1024 = e at hE hb ⊢
    refine ⟨(e, u, 0, W.rep 1024 false), rfl, ⟨hb, hu, hul, Int.le_refl _, ?_, ?_⟩, ?_⟩
    · show (0 : Int) ≤ (u.length : Int); omega
    · show W.rep 1024 false = Sp.mark e (u.take 0)
      rw [List.take_zero]; exact (Sp.mark_nil e).symm
    · have hl := Sp.mark_len e u
      have hf := Sp.frOk_zero e (Sp.mark e u)
      generalize Sp.mark e u = t at hE hl hf ⊢
      refine brc_ige (fun h => ?_) fun h => ⟨⟨hl, by decide, ?_, hb⟩, ?_⟩
      · have h : e ≤ 2 := h
        have := Sp.frOk_end hf h
        exact hk (by rw [← hE, ← this])
      · show (2 : Int) ≤ e; have h : (2 : Int) < e := h; omega
      have h : (2 : Int) < e := h
      obtain ⟨q1, q2, q3, q4⟩ := Sp.frOk_step hf h
      have hEE : (Sp.fr t (e - 2).toNat = [] → TV.a .nils = freeV (Sp.frees b u)) ∧ (Sp.fr t (e - 2).toNat ≠ [] → TV.o (.own 23 PT (Sp.fr t (e - 2).toNat)) = freeV (Sp.frees b u)) := ⟨fun h => hk (hE.symm.trans h), fun h => (congrArg (fun l : List Sp.Rm => TV.o (.own 23 PT l)) hE).trans (ho (fun h2 => h (hE.trans h2)))⟩
      have w2 : (Int.ofNat 2) = 2 := rfl
      rw [w2]
      dsimp only
      refine brc_igt (fun hr => .inr ?_) fun hr => .inl ?_
      · rw [W.add_i64 (a := 2) (by omega) (by omega), W.add_i64 (b := 1) (by omega) (by omega)]
        have h1 := q1 hr
        refine ⟨(e, t, 2 + Sp.room t 2 e + 1, [(2, Sp.room t 2 e, ())]), rfl, ⟨by simp, hl, hb, Sp.frOk_len h1, ?_, h1⟩, hEE⟩
        show 2 + Sp.room t 2 e + 1 ≤ 1030; omega
      · have h1 := q2 (by omega)
        exact ⟨(e, t, 3), rfl, ⟨hl, hb, by show (0 : Int) ≤ 3; omega, by show (3 : Int) ≤ 1030; omega, h1⟩, hEE⟩
end Go.Proofs.Ytpohkoijbocpcaa
