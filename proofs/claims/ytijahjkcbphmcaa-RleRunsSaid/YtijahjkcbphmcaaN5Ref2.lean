/-
  Texts of a proof over the translated program: N5Ref2.
-/
import Derived.Test.YtijahjkcbphmcaaN5Ref
set_option linter.unusedVariables false
namespace Sp
open Go Go.AbsM
theorem runs_begin {l : List Int} {i : Nat} (h : i < l.length) : runs (l.drop i) = runsG 1 (l.getD i 0) (l.drop (i + 1)) := by
  rw [List.drop_eq_getElem_cons h, List.getD_eq_getElem?_getD, List.getElem?_eq_getElem h]; rfl
theorem run_ends {l : List Int} {i n : Nat} (hn : 1 ≤ n) (hle : i + n ≤ l.length) (he : i + n = l.length ∨ l.getD (i + n) 0 ≠ l.getD i 0) (hr : runsAt l i = runsGAt n l i ((i : Int) + n)) : oneRun l i n := by
  have e1 : ((i : Int)).toNat = i := rfl
  have e2 : ((i : Int) + (n : Int)).toNat = i + n := by omega
  refine ⟨by omega, by omega, ?_⟩
  unfold runsAt runsGAt at hr
  rw [e1, e2] at hr ⊢
  rw [hr]
  rcases Nat.lt_or_ge (i + n) l.length with h | h
  · rw [runsG_drop n (l.getD i 0) h, if_neg (by rcases he with he | he; omega; exact he), runs_begin h]
  · rw [List.drop_eq_nil_of_le h]; rfl
theorem run_more {l : List Int} {i n : Nat} (h : i + n < l.length) (e : l.getD (i + n) 0 = l.getD i 0) (hr : runsAt l i = runsGAt n l i ((i : Int) + n)) : runsAt l i = runsGAt ((n : Int) + 1) l i ((i : Int) + ((n : Int) + 1)) := by
  have e1 : ((i : Int)).toNat = i := rfl
  have e2 : ((i : Int) + (n : Int)).toNat = i + n := by omega
  have e3 : ((i : Int) + ((n : Int) + 1)).toNat = i + n + 1 := by omega
  unfold runsAt runsGAt at hr ⊢
  rw [e1, e2] at hr
  rw [e1, e3, hr, runsG_drop n (l.getD i 0) h, if_pos e]
end Sp
namespace Go.Proofs.Ytijahjkcbphmcaa
open Go.AbsM
theorem cleanT_mono {n : Nat} {ls ks : List Nat} {s : TSt} {K K' : TSt → Prop} (h : ∀ s, K s → K' s) : cleanT n ls ks s K → cleanT n ls ks s K' := by
  unfold cleanT
  intro hh
  simp only at hh ⊢
  split at hh
  · rename_i hc
    rw [if_pos hc]; exact h _ hh
  · exact hh.elim
def mk29j : (List Int × Int) ⊕ (List Int × Int × List Int × Int) → TSt
  | .inl i => mk29ia i
  | .inr i => mk29ib i
def psi29j : (List Int × Int) ⊕ (List Int × Int × List Int × Int) → Post → Prop
  | .inl i => psi29ia i
  | .inr i => psi29ib i
def mu29j : (List Int × Int) ⊕ (List Int × Int × List Int × Int) → Nat
  | .inl i => (i.1.length - i.2).toNat
  | .inr i => (i.1.length - (i.2.1 + i.2.2.2)).toNat
theorem good48L : Goods Try.prog [ctr48] := .cons (good48 .nil) .nil
theorem knownF : KnownOk Try.prog (envL [ctr48]) (knownL [ctr48] blk29 noneK) := knownL_ok wide good48L blk29 noneK
theorem loop29i : ∀ s Φ, piece29 s Φ → Run Try.prog (.code (.block 2 (blkC (bodyOf Try.f29) 2))) s Φ := by
  intro s Φ hp
  refine run_loopB (n := 44) (ls := [0, 3, 4, 5]) (ks := []) (lx := [0, 3, 4, 5]) (kx := []) (mk := mk29j) (ψ := psi29j) knownF mu29j (by kernel_rfl) (lamOk_free (by kernel_rfl)) ?_ s Φ (cleanT_mono (fun s2 h => by
    rcases h with ⟨i, h1, h2⟩ | ⟨i, h1, h2⟩
    · exact ⟨.inl i, h1, h2⟩
    · exact ⟨.inr i, h1, h2⟩) hp)
  rintro (⟨l, n⟩ | ⟨l, i, xs, n⟩) Φ ⟨⟨hl, h0, h1, h2, hr⟩, hΦ⟩
  · simp only at hl h0 h1 h2 hr hΦ
    obtain ⟨n, rfl⟩ : ∃ m : Nat, n = m := ⟨n.toNat, by omega⟩
    refine Eq.mpr (nf29ia _ mk29j psi29j mu29j l n Φ _) ?_
    have e1 : W.ofNat (W.len l) = (l.length : Int) := rfl
    have e2 : W.add .i64 0 (n : Int) = (n : Int) := by rw [W.add_i64 (by omega) (by omega)]; omega
    have e3 : W.toNat (n : Int) = n := rfl
    have e4 : W.nth l n 0 = l.getD n 0 := rfl
    have e5 : W.nth l 0 0 = l.getD 0 0 := rfl
    have e6 : W.add .i64 (n : Int) 1 = (n : Int) + 1 := W.add_i64 (by omega) (by omega)
    have z : (0 : Nat) + n = n := by omega
    rw [e1, e2, e3, e4, e5, e6]
    refine brc_ilt (fun h => grd_ile (by omega) (grd_nlt (by simp only [W.len]; omega) (grd_nlt (by simp only [W.len]; omega) (brc_ieq (fun h3 => ?_) fun h3 => ?_)))) fun h => ?_
    · refine ⟨.inl (l, (n : Int) + 1), rfl, ?_, ⟨hl, h0, ?_, ?_, ?_⟩, hΦ⟩
      · show ((l.length : Int) - ((n : Int) + 1)).toNat < ((l.length : Int) - (n : Int)).toNat; omega
      · show 1 ≤ (n : Int) + 1; omega
      · show 0 + ((n : Int) + 1) ≤ l.length; omega
      · exact Sp.run_more (l := l) (i := 0) (n := n) (by omega) (by rw [z]; exact h3) hr
    · exact hΦ n (Sp.run_ends (i := 0) (n := n) (by omega) (by omega) (.inr (by rw [z]; exact h3)) hr)
    · exact hΦ n (Sp.run_ends (i := 0) (n := n) (by omega) (by omega) (.inl (by omega)) hr)
  · simp only at hl h0 h1 h2 hr hΦ
    obtain ⟨n, rfl⟩ : ∃ m : Nat, n = m := ⟨n.toNat, by omega⟩
    obtain ⟨i, rfl⟩ : ∃ m : Nat, i = m := ⟨i.toNat, by omega⟩
    refine Eq.mpr (nf29ib _ mk29j psi29j mu29j l i xs n Φ _) ?_
    have e1 : W.ofNat (W.len l) = (l.length : Int) := rfl
    have e2 : W.add .i64 (i : Int) (n : Int) = ((i + n : Nat) : Int) := by rw [W.add_i64 (by omega) (by omega)]; omega
    have e3 : W.toNat ((i + n : Nat) : Int) = i + n := rfl
    have e3' : W.toNat (i : Int) = i := rfl
    have e4 : W.nth l (i + n) 0 = l.getD (i + n) 0 := rfl
    have e5 : W.nth l i 0 = l.getD i 0 := rfl
    have e6 : W.add .i64 (n : Int) 1 = (n : Int) + 1 := W.add_i64 (by omega) (by omega)
    rw [e1, e2, e3, e3', e4, e5, e6]
    refine brc_ilt (fun h => grd_ile (by omega) (grd_nlt (by simp only [W.len]; omega) (grd_ile (by omega) (grd_nlt (by simp only [W.len]; omega) (brc_ieq (fun h3 => ?_) fun h3 => ?_))))) fun h => ?_
    · refine ⟨.inr (l, (i : Int), xs, (n : Int) + 1), rfl, ?_, ⟨hl, h0, ?_, ?_, ?_⟩, hΦ⟩
      · show ((l.length : Int) - ((i : Int) + ((n : Int) + 1))).toNat < ((l.length : Int) - ((i : Int) + (n : Int))).toNat; omega
      · show 1 ≤ (n : Int) + 1; omega
      · show (i : Int) + ((n : Int) + 1) ≤ l.length; omega
      · exact Sp.run_more (l := l) (i := i) (n := n) (by omega) h3 hr
    · exact hΦ n (Sp.run_ends (i := i) (n := n) (by omega) (by omega) (.inr h3) hr)
    · exact hΦ n (Sp.run_ends (i := i) (n := n) (by omega) (by omega) (.inl (by omega)) hr)

theorem inU_get {l : List Int} (h : Sp.inU l) {i : Nat} (hi : i < l.length) : 0 ≤ l.getD i 0 ∧ l.getD i 0 < 18446744073709551616 := by
  rw [List.getD_eq_getElem?_getD, List.getElem?_eq_getElem hi]; exact h _ (List.getElem_mem hi)
theorem loop29 : ∀ s Φ, loopP 44 [0, 3, 4] [] mk29 psi29 s Φ → Run Try.prog (.code (.block 0 (blkC (bodyOf Try.f29) 0))) s Φ := by
  refine run_loopB (lx := [3]) (kx := []) knownF (fun i : List Int × Nat × List Int => i.1.length - i.2.1) (by kernel_rfl) ?_ ?_
  · refine lamOk_of (fun id c' hm ψ hψ => ?_) (fun c' hm => ?_)
    · have hids : (blocksOf (loopOf (blkC (bodyOf Try.f29) 0))).map (·.1) = [1, 2, 3] := by kernel_rfl
      have hc : c' = blkC (loopOf (blkC (bodyOf Try.f29) 0)) id := findB_mem (by rw [hids]; rfl) hm
      have hid : id ∈ [1, 2, 3] := by rw [← hids]; exact List.mem_map.2 ⟨_, hm, rfl⟩
      simp only [List.mem_cons, List.not_mem_nil, or_false] at hid
      rcases hid with rfl | rfl | rfl
      · cases hψ
      · cases hψ
        rw [hc]
        have : blkC (loopOf (blkC (bodyOf Try.f29) 0)) 2 = blkC (bodyOf Try.f29) 2 := by kernel_rfl
        rw [this]; exact loop29i
      · cases hψ
    · have : scopesOf (loopOf (blkC (bodyOf Try.f29) 0)) = [] := by kernel_rfl
      rw [this] at hm; cases hm
  rintro ⟨l, n, xs⟩ Φ ⟨⟨hu, hl, hne, hn, hz, hxl⟩, hΦ⟩
  simp only at hu hl hne hn hz hxl hΦ
  have e1 : W.ofNat (W.len l) = (l.length : Int) := rfl
  cases n with
  | zero =>
    obtain rfl := hz rfl
    refine Eq.mpr (nf29a _ _ _ _ l Φ _) ?_
    have hlt : 0 < l.length := by omega
    have hg := inU_get hu hlt
    rw [e1]
    refine brc_ilt (fun h => .inl ⟨(l, 1), rfl, ⟨hl, Int.le_refl 0, Int.le_refl 1, ?_, ?_⟩, ?_⟩) fun h => by omega
    · show (0 : Int) + 1 ≤ l.length; omega
    · exact Sp.runs_begin hlt
    · rintro k ⟨k1, k2, k3⟩
      have k2 : 0 + k ≤ (l.length : Int) := k2
      obtain ⟨m, rfl⟩ : ∃ m : Nat, k = (m + 1 : Nat) := ⟨k.toNat - 1, by omega⟩
      have e2 : W.wrap .u64 ((m + 1 : Nat) : Int) = ((m + 1 : Nat) : Int) := W.wu64_in (by omega) (by omega)
      have e3 : W.nth l 0 0 = l.getD 0 0 := rfl
      have e4 : W.add .i64 0 ((m + 1 : Nat) : Int) = ((m + 1 : Nat) : Int) := by rw [W.add_i64 (by omega) (by omega)]; omega
      simp only [e2, e3, e4]
      have ht : 2 ≤ (List.append (Sp.enc ((m + 1 : Nat) : Int)) (Sp.enc (l.getD 0 0))).length ∧ (List.append (Sp.enc ((m + 1 : Nat) : Int)) (Sp.enc (l.getD 0 0))).length ≤ 20 := enc_two (p := (((m + 1 : Nat) : Int), l.getD 0 0, ())) ⟨⟨by show (0 : Int) ≤ ((m + 1 : Nat) : Int); omega, by show ((m + 1 : Nat) : Int) < 18446744073709551616; omega⟩, hg⟩
      have l1 := Sp.enc_len (u := ((m + 1 : Nat) : Int)) (by omega) (by omega)
      have e5 : (0 + ((m + 1 : Nat) : Int)).toNat = m + 1 := by omega
      rw [e5] at k3
      refine ⟨⟨by omega, by omega, by decide⟩, grd_nlt hlt ⟨⟨hg.1, hg.2, by omega⟩, (l, m + 1, Sp.enc ((m + 1 : Nat) : Int) ++ Sp.enc (l.getD 0 0)), rfl, ?_, ⟨hu, hl, hne, ?_, ?_, ?_⟩, ?_⟩⟩
      · show l.length - (m + 1) < l.length - 0; omega
      · show m + 1 ≤ l.length; omega
      · intro h; exact absurd h (Nat.succ_ne_zero m)
      · have ht2 := ht.2
        show (List.append (Sp.enc ((m + 1 : Nat) : Int)) (Sp.enc (l.getD 0 0))).length ≤ 20 * (m + 1); omega
      · have k3 : Sp.runs (l.drop 0) = (((m + 1 : Nat) : Int), l.getD 0 0, ()) :: Sp.runs (l.drop (m + 1)) := k3
        rw [k3] at hΦ
        exact hΦ
  | succ n =>
    refine Eq.mpr (nf29b _ _ _ _ l ((n + 1 : Nat) : Int) xs Φ _) ?_
    rw [e1]
    refine brc_ilt (fun h => ?_) fun h => ?_
    · have hlt : n + 1 < l.length := by omega
      have hg := inU_get hu hlt
      refine .inr ⟨(l, ((n + 1 : Nat) : Int), xs, 1), rfl, ⟨hl, ?_, Int.le_refl 1, ?_, ?_⟩, ?_⟩
      · show (0 : Int) ≤ ((n + 1 : Nat) : Int); omega
      · show ((n + 1 : Nat) : Int) + 1 ≤ l.length; omega
      · exact Sp.runs_begin hlt
      · rintro k ⟨k1, k2, k3⟩
        have k2 : ((n + 1 : Nat) : Int) + k ≤ (l.length : Int) := k2
        obtain ⟨m, rfl⟩ : ∃ m : Nat, k = (m + 1 : Nat) := ⟨k.toNat - 1, by omega⟩
        have e2 : W.wrap .u64 ((m + 1 : Nat) : Int) = ((m + 1 : Nat) : Int) := W.wu64_in (by omega) (by omega)
        have e3' : W.toNat ((n + 1 : Nat) : Int) = n + 1 := rfl
        have e3 : W.nth l (n + 1) 0 = l.getD (n + 1) 0 := rfl
        have e4 : W.add .i64 ((n + 1 : Nat) : Int) ((m + 1 : Nat) : Int) = ((n + m + 1 + 1 : Nat) : Int) := by rw [W.add_i64 (by omega) (by omega)]; omega
        simp only [e2, e3', e3, e4]
        have ht : 2 ≤ (List.append (Sp.enc ((m + 1 : Nat) : Int)) (Sp.enc (l.getD (n + 1) 0))).length ∧ (List.append (Sp.enc ((m + 1 : Nat) : Int)) (Sp.enc (l.getD (n + 1) 0))).length ≤ 20 := enc_two (p := (((m + 1 : Nat) : Int), l.getD (n + 1) 0, ())) ⟨⟨by show (0 : Int) ≤ ((m + 1 : Nat) : Int); omega, by show ((m + 1 : Nat) : Int) < 18446744073709551616; omega⟩, hg⟩
        have l1 := Sp.enc_len (u := ((m + 1 : Nat) : Int)) (by omega) (by omega)
        have e5 : (((n + 1 : Nat) : Int) + ((m + 1 : Nat) : Int)).toNat = n + m + 1 + 1 := by omega
        rw [e5] at k3
        have hx2 : (List.append xs (Sp.enc ((m + 1 : Nat) : Int))).length = xs.length + (Sp.enc ((m + 1 : Nat) : Int)).length := List.length_append
        have hx3 : (List.append (List.append xs (Sp.enc ((m + 1 : Nat) : Int))) (Sp.enc (l.getD (n + 1) 0))).length = xs.length + (List.append (Sp.enc ((m + 1 : Nat) : Int)) (Sp.enc (l.getD (n + 1) 0))).length := by
          show ((xs ++ Sp.enc ((m + 1 : Nat) : Int)) ++ Sp.enc (l.getD (n + 1) 0)).length = xs.length + (Sp.enc ((m + 1 : Nat) : Int) ++ Sp.enc (l.getD (n + 1) 0)).length
          rw [List.append_assoc, List.length_append]
        refine ⟨⟨by omega, by omega, by omega⟩, grd_ile (by omega) (grd_nlt hlt ⟨⟨hg.1, hg.2, by omega⟩, (l, n + m + 1 + 1, (xs ++ Sp.enc ((m + 1 : Nat) : Int)) ++ Sp.enc (l.getD (n + 1) 0)), rfl, ?_, ⟨hu, hl, hne, ?_, ?_, ?_⟩, ?_⟩)⟩
        · show l.length - (n + m + 1 + 1) < l.length - (n + 1); omega
        · show n + m + 1 + 1 ≤ l.length; omega
        · intro h; exact absurd h (Nat.succ_ne_zero _)
        · have ht2 := ht.2
          show (List.append (List.append xs (Sp.enc ((m + 1 : Nat) : Int))) (Sp.enc (l.getD (n + 1) 0))).length ≤ 20 * (n + m + 1 + 1); omega
        · have k3 : Sp.runs (l.drop (n + 1)) = (((m + 1 : Nat) : Int), l.getD (n + 1) 0, ()) :: Sp.runs (l.drop (n + m + 1 + 1)) := k3
          rw [k3] at hΦ
          have ap : ((xs ++ Sp.enc ((m + 1 : Nat) : Int)) ++ Sp.enc (l.getD (n + 1) 0)) ++ Sp.encR (Sp.runs (l.drop (n + m + 1 + 1))) = xs ++ Sp.encR ((((m + 1 : Nat) : Int), l.getD (n + 1) 0, ()) :: Sp.runs (l.drop (n + m + 1 + 1))) := by
            simp only [Sp.encR, List.append_assoc]
          exact Eq.mpr (congrArg (fun y : List Int => Φ .normal (mkS 44 [(3, TV.l 5 (.int .u8) y)] [])) ap) hΦ
    · have : l.drop (n + 1) = [] := List.drop_eq_nil_of_le (by omega)
      rw [this] at hΦ
      simp only [Sp.runs, Sp.encR, List.append_nil] at hΦ
      exact hΦ
def ctr29 : TCtr := .det 29 [.l 39 (.int .u64)] (fun (d : List Int × Unit) => Sp.inU d.1 ∧ d.1.length < 1000 ∧ d.1.length ≠ 0) (fun (d : List Int × Unit) => TV.l 5 (.int .u8) (Sp.encR (Sp.runs d.1))) fun _ => rfl
theorem good29 : GoodC Try.prog ctr29 := by
  refine good_by (blk := blk29) (lab := noneK) (fn := Try.f29) wide good48L ⟨by kernel_rfl, by kernel_rfl, by kernel_rfl, by kernel_rfl⟩ (lamOk_body (by kernel_rfl) (by kernel_rfl) (fun id ψ h => ?_) (fun l rest ψ _ hl => by cases hl)) fun d hd => ?_
  · have h : blk29 id = some ψ := h
    unfold blk29 at h
    split at h
    · rename_i hb
      have := Nat.eq_of_beq_eq_true hb
      subst this
      cases h; exact loop29
    · obtain ⟨rfl, rfl⟩ := one_some h
      exact loop29i
  · obtain ⟨l, x⟩ : List Int × Unit := d
    obtain ⟨hu, hl, hne⟩ : Sp.inU l ∧ l.length < 1000 ∧ l.length ≠ 0 := hd
    exact Eq.mpr (nf29 l _) ⟨(l, 0, []), rfl, ⟨hu, hl, hne, Nat.zero_le _, fun _ => rfl, Nat.zero_le _⟩, rfl⟩
end Go.Proofs.Ytijahjkcbphmcaa
