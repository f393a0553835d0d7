/-
  Texts of a proof over the translated program: NeExt8.
-/
import Derived.Test.YtpohkoijbocpcaaNeExt8Nf
set_option linter.unusedVariables false
namespace Sp
open Go Go.AbsM
theorem sumN_app (l : List Rm) (u : Rm) : sumN (l ++ [u]) = sumN l + u.2.1 := by simp [sumN]
theorem sumN_take {l : List Rm} {c : Nat} (h : c < l.length) : sumN (l.take (c + 1)) = sumN (l.take c) + (W.nth l c ((0 : Int), (0 : Int), ())).2.1 := by
  rw [take_succ h, sumN_app]
theorem sumN_bound {l : List Rm} (h : ∀ u, u ∈ l → 0 ≤ u.2.1 ∧ u.2.1 ≤ 2000) : 0 ≤ sumN l ∧ sumN l ≤ 2000 * l.length := by
  induction l with
  | nil => exact ⟨Int.le_refl _, Int.le_refl _⟩
  | cons a r ih =>
    have h1 := h a List.mem_cons_self
    have h2 := ih fun u hu => h u (List.mem_cons_of_mem _ hu)
    have e : sumN (a :: r) = a.2.1 + sumN r := by simp [sumN]
    rw [e, List.length_cons]
    omega
theorem sumN_bound_take {l : List Rm} (h : ∀ u, u ∈ l → 0 ≤ u.2.1 ∧ u.2.1 ≤ 2000) (hl : l.length ≤ 2000) (c : Nat) : 0 ≤ sumN (l.take c) ∧ sumN (l.take c) ≤ 4000000 := by
  have h1 := sumN_bound (l := l.take c) fun u hu => h u (List.mem_of_mem_take hu)
  have h2 : (l.take c).length ≤ l.length := by simp; omega
  omega
theorem sum_lefts {f : List Rm} {i : Nat} {n : Int} (h0 : ∀ u, u ∈ f → 0 ≤ u.2.1) (hi : i < f.length) (hn : n ≤ (W.nth f i ((0 : Int), (0 : Int), ())).2.1) : ∀ k, k ≤ f.length → sumN (lefts f i n k) = sumN (f.take k) - (if i < k then n else 0)
  | 0, _ => by simp [lefts, sumN]
  | k + 1, hk => by
    have ih := sum_lefts h0 hi hn k (by omega)
    have hu := h0 _ (nth_mem (show k < f.length by omega))
    rw [sumN_take (show k < f.length by omega), lefts]
    by_cases hki : k = i
    · subst hki
      have hp : piece f k n k = ((W.nth f k ((0 : Int), (0 : Int), ())).1 + n, (W.nth f k ((0 : Int), (0 : Int), ())).2.1 - n, ()) := if_pos rfl
      rw [hp, if_pos (show k < k + 1 by omega)]
      rw [if_neg (show ¬ k < k by omega)] at ih
      by_cases hz : 0 < (W.nth f k ((0 : Int), (0 : Int), ())).2.1 - n
      · rw [if_pos hz, sumN_app, ih]
        show sumN (f.take k) - 0 + ((W.nth f k ((0 : Int), (0 : Int), ())).2.1 - n) = _
        omega
      · rw [if_neg hz, ih]; omega
    · have hp : piece f i n k = W.nth f k ((0 : Int), (0 : Int), ()) := if_neg hki
      have hc : (if i < k + 1 then n else 0) = (if i < k then n else 0) := by
        by_cases h : i < k
        · rw [if_pos h, if_pos (by omega)]
        · rw [if_neg h, if_neg (by omega)]
      rw [hp, hc]
      by_cases hz : 0 < (W.nth f k ((0 : Int), (0 : Int), ())).2.1
      · rw [if_pos hz, sumN_app, ih]; omega
      · rw [if_neg hz, ih]; omega
theorem lefts_mem {f : List Rm} {i : Nat} {n : Int} : ∀ k u, u ∈ lefts f i n k → ∃ j, j < k ∧ u = piece f i n j ∧ 0 < u.2.1
  | 0, u, h => by simp [lefts] at h
  | k + 1, u, h => by
    rw [lefts] at h
    split at h
    · rename_i hz
      rcases List.mem_append.1 h with h | h
      · obtain ⟨j, h1, h2⟩ := lefts_mem k u h
        exact ⟨j, by omega, h2⟩
      · simp only [List.mem_singleton] at h; subst h
        exact ⟨k, by omega, rfl, hz⟩
    · obtain ⟨j, h1, h2⟩ := lefts_mem k u h
      exact ⟨j, by omega, h2⟩
theorem rise_mono {f : List Rm} (hr : rise f) (h1 : ∀ u, u ∈ f → 1 ≤ u.2.1) {c : Nat} : ∀ d, c < d → d < f.length → (W.nth f c ((0 : Int), (0 : Int), ())).1 + (W.nth f c ((0 : Int), (0 : Int), ())).2.1 < (W.nth f d ((0 : Int), (0 : Int), ())).1
  | 0, h, _ => by omega
  | d + 1, h, hd => by
    have q := hr d hd
    by_cases hcd : c = d
    · subst hcd; exact q
    · have ih := rise_mono (c := c) hr h1 d (by omega) (by omega)
      have hm := h1 _ (nth_mem (show d < f.length by omega))
      omega
/-- What is taken, what is left. -/
theorem take_good {b n : Int} {u f : List Rm} (hf : f = frees b u) (h1 : 1 ≤ n) (hlt : fi f n < f.length) : pre5 f (lefts f (fi f n) n f.length) (W.nth f (fi f n) ((0 : Int), (0 : Int), ())).1 n := by
  obtain ⟨g1, g2, g3, g4⟩ := frees_good (b := b) (u := u)
  rw [← hf] at g1 g2 g3
  have gs : ∀ v, v ∈ f → 2 ≤ v.1 ∧ 1 ≤ v.2.1 ∧ v.1 + v.2.1 ≤ 1024 := fun v hv => check_small (g2 v hv)
  have hn := fi_has hlt
  have hx := gs _ (nth_mem hlt)
  have hs := sum_lefts (f := f) (i := fi f n) (n := n) (fun v hv => by have := gs v hv; omega) hlt hn f.length (Nat.le_refl _)
  rw [if_pos hlt, List.take_length] at hs
  have hll := lefts_len f (fi f n) n f.length
  refine ⟨⟨by omega, by omega, h1, by omega⟩, ⟨g1, fun v hv => by have := gs v hv; omega⟩, ⟨by omega, fun v hv => ?_⟩, by omega⟩
  obtain ⟨j, hj, hv2, hv3⟩ := lefts_mem _ v hv
  have hyj := gs _ (nth_mem hj)
  by_cases hji : j = fi f n
  · have hp : v = ((W.nth f j ((0 : Int), (0 : Int), ())).1 + n, (W.nth f j ((0 : Int), (0 : Int), ())).2.1 - n, ()) := by rw [hv2]; exact if_pos hji
    have p1 : v.1 = (W.nth f j ((0 : Int), (0 : Int), ())).1 + n := by rw [hp]
    have p2 : v.2.1 = (W.nth f j ((0 : Int), (0 : Int), ())).2.1 - n := by rw [hp]
    rw [hji] at p1 p2
    refine ⟨⟨by omega, by omega, by omega, by omega⟩, over_not.2 (by omega)⟩
  · have hp : v = W.nth f j ((0 : Int), (0 : Int), ()) := by rw [hv2]; exact if_neg hji
    rw [← hp] at hyj
    refine ⟨⟨by omega, by omega, by omega, by omega⟩, over_not.2 ?_⟩
    rcases Nat.lt_or_gt_of_ne hji with h | h
    · have := rise_mono g3 (fun w hw => (gs w hw).2.1) _ h hlt
      rw [← hp] at this; omega
    · have := rise_mono g3 (fun w hw => (gs w hw).2.1) _ h hj
      rw [← hp] at this; omega
theorem frees_pre (b : Int) (u : List Rm) {n : Int} (hn : i64 n) : pre19 (frees b u) n := by
  obtain ⟨g1, g2, g3, g4⟩ := frees_good (b := b) (u := u)
  refine ⟨fun v hv => ?_, by omega, hn⟩
  have := check_small (g2 v hv)
  unfold small at this
  omega
end Sp
namespace Go.Proofs.Ytpohkoijbocpcaa
open Go.AbsM
attribute [local irreducible] Sp.mark Sp.fr Sp.frees Sp.tk Sp.fi Sp.lefts
theorem take_e {e : TypeId} {f : List Sp.Rm} {n k : Int} (h : Sp.cE k f n) : takeV e f n = takeE k := by
  obtain ⟨_, h⟩ := h
  unfold takeV
  rcases h with ⟨rfl, h⟩ | ⟨rfl, h1, h2⟩
  · rw [if_pos h]
  · rw [if_neg (by omega), if_pos h2]
theorem take_n {e : TypeId} {f : List Sp.Rm} {n : Int} (h : Sp.cN f n) : takeV e f n = takeN f n := by
  obtain ⟨_, h1, h2, h3⟩ := h
  unfold takeV
  rw [if_neg (by omega), if_neg (by omega), if_pos h3]
theorem take_o {e : TypeId} {f : List Sp.Rm} {n : Int} (h : Sp.cO f n) : takeV e f n = takeO e f n := by
  obtain ⟨_, h1, h2, h3⟩ := h
  unfold takeV
  rw [if_neg (by omega), if_neg (by omega), if_neg h3]
theorem good18z : GoodC Try.prog ctr18z where
  there := good18n.there
  cells := good18n.cells
  call := fun d hp S => by
    obtain ⟨a, x⟩ : List Sp.Rm × Unit := d
    have hp : a.length = 0 := hp
    exact good18n.call (a, x) (List.eq_nil_of_length_eq_zero hp) S
theorem good19E (k : Int) : GoodC Try.prog (ctr19E k) where
  there := good19.there
  cells := good19.cells
  call := fun d hp S => by
    obtain ⟨f, n, x⟩ : List Sp.Rm × Int × Unit := d
    have hp : Sp.cE k f n := hp
    have e : ctr19.out (f, n, x) = takeE k := take_e hp
    exact Eq.mp (congrArg (fun y => CallC Try.prog ctr19.f ((t1s ctr19.sig (f, n, x)).map (T1.emb [])) S S y) (congrArg (TV.emb []) e)) (good19.call (f, n, x) hp.1 S)
theorem good19N : GoodC Try.prog (ctr19N) where
  there := good19.there
  cells := good19.cells
  call := fun d hp S => by
    obtain ⟨f, n, x⟩ : List Sp.Rm × Int × Unit := d
    have hp : Sp.cN f n := hp
    have e : ctr19.out (f, n, x) = takeN f n := take_n hp
    exact Eq.mp (congrArg (fun y => CallC Try.prog ctr19.f ((t1s ctr19.sig (f, n, x)).map (T1.emb [])) S S y) (congrArg (TV.emb []) e)) (good19.call (f, n, x) hp.1 S)
theorem good19O : GoodC Try.prog (ctr19O) where
  there := good19.there
  cells := good19.cells
  call := fun d hp S => by
    obtain ⟨f, n, x⟩ : List Sp.Rm × Int × Unit := d
    have hp : Sp.cO f n := hp
    have e : ctr19.out (f, n, x) = takeO 23 f n := take_o hp
    exact Eq.mp (congrArg (fun y => CallC Try.prog ctr19.f ((t1s ctr19.sig (f, n, x)).map (T1.emb [])) S S y) (congrArg (TV.emb []) e)) (good19.call (f, n, x) hp.1 S)
theorem good20E (k : Int) : GoodC Try.prog (ctr20E k) where
  there := good20.there
  cells := good20.cells
  call := fun d hp S => by
    obtain ⟨f, n, x⟩ : List Sp.Rm × Int × Unit := d
    have hp : Sp.cE k f n := hp
    have e : ctr20.out (f, n, x) = takeE k := take_e hp
    exact Eq.mp (congrArg (fun y => CallC Try.prog ctr20.f ((t1s ctr20.sig (f, n, x)).map (T1.emb [])) S S y) (congrArg (TV.emb []) e)) (good20.call (f, n, x) hp.1 S)
theorem good20N : GoodC Try.prog (ctr20N) where
  there := good20.there
  cells := good20.cells
  call := fun d hp S => by
    obtain ⟨f, n, x⟩ : List Sp.Rm × Int × Unit := d
    have hp : Sp.cN f n := hp
    have e : ctr20.out (f, n, x) = takeN f n := take_n hp
    exact Eq.mp (congrArg (fun y => CallC Try.prog ctr20.f ((t1s ctr20.sig (f, n, x)).map (T1.emb [])) S S y) (congrArg (TV.emb []) e)) (good20.call (f, n, x) hp.1 S)
theorem good20O : GoodC Try.prog (ctr20O) where
  there := good20.there
  cells := good20.cells
  call := fun d hp S => by
    obtain ⟨f, n, x⟩ : List Sp.Rm × Int × Unit := d
    have hp : Sp.cO f n := hp
    have e : ctr20.out (f, n, x) = takeO 28 f n := take_o hp
    exact Eq.mp (congrArg (fun y => CallC Try.prog ctr20.f ((t1s ctr20.sig (f, n, x)).map (T1.emb [])) S S y) (congrArg (TV.emb []) e)) (good20.call (f, n, x) hp.1 S)

theorem good5n1' : Goods Try.prog takLn1 := .cons good9 (.cons good15n (.cons good18z (.cons (good19E 1) (.cons (good20E 1) (.cons good16 (.cons good12 (.cons good13 .nil)))))))
def law5n1 : TCtr := lawC 5 [.v (.int .u16), .l 23 PT, .v (.int .i64)] (fun (d : Int × List Sp.Rm × Int × Unit) => (0 ≤ d.1 ∧ d.1 < 65536) ∧ Sp.inR d.2.1 ∧ Sp.i64 d.2.2.1 ∧ Sp.frees (d.1 % 200) d.2.1 = [] ∧ Sp.cE 1 (Sp.frees (d.1 % 200) d.2.1) d.2.2.1)
theorem good5n1 : GoodC Try.prog law5n1 := by
  refine good_byDB (c := law5n1) (DL := []) (blk := noneK) (lab := noneK) (fn := Try.f5) wide good5n1' (fun c h => by cases h) ⟨by kernel_rfl, by kernel_rfl, by kernel_rfl, by kernel_rfl⟩ (lamOk_body (by kernel_rfl) (by kernel_rfl) (fun id ψ h => by cases h) (fun l rest ψ _ hl => by cases hl)) (fun d hd => ?_)
  obtain ⟨b, u, n, x⟩ : Int × List Sp.Rm × Int × Unit := d
  obtain ⟨hb, hu, hn, hf, hc⟩ : (0 ≤ b ∧ b < 65536) ∧ Sp.inR u ∧ Sp.i64 n ∧ Sp.frees (b % 200) u = [] ∧ Sp.cE 1 (Sp.frees (b % 200) u) n := hd
  refine Blk.nf (nf5n1 b u n _) ⟨trivial, brc_igt (fun h => rfl) fun h => ?_⟩
  have h : (u.length : Int) ≤ 30 := h
  have eb : W.wrap .i64 (W.rem b 200) = b % 200 := by rw [W.rem_pos hb.1, W.wi64_in (by omega) (by omega)]
  have hl := (Sp.frees_good (b := b % 200) (u := u)).1
  rw [eb]
  rw [hf] at hc
  exact ⟨⟨hu, by omega, hf⟩, hc, rfl, hc, trivial, by show 1 ≤ 1000000; omega, rfl⟩

theorem good5n9' : Goods Try.prog takLn9 := .cons good9 (.cons good15n (.cons good18z (.cons (good19E 9) (.cons (good20E 9) (.cons good16 (.cons good12 (.cons good13 .nil)))))))
def law5n9 : TCtr := lawC 5 [.v (.int .u16), .l 23 PT, .v (.int .i64)] (fun (d : Int × List Sp.Rm × Int × Unit) => (0 ≤ d.1 ∧ d.1 < 65536) ∧ Sp.inR d.2.1 ∧ Sp.i64 d.2.2.1 ∧ Sp.frees (d.1 % 200) d.2.1 = [] ∧ Sp.cE 9 (Sp.frees (d.1 % 200) d.2.1) d.2.2.1)
theorem good5n9 : GoodC Try.prog law5n9 := by
  refine good_byDB (c := law5n9) (DL := []) (blk := noneK) (lab := noneK) (fn := Try.f5) wide good5n9' (fun c h => by cases h) ⟨by kernel_rfl, by kernel_rfl, by kernel_rfl, by kernel_rfl⟩ (lamOk_body (by kernel_rfl) (by kernel_rfl) (fun id ψ h => by cases h) (fun l rest ψ _ hl => by cases hl)) (fun d hd => ?_)
  obtain ⟨b, u, n, x⟩ : Int × List Sp.Rm × Int × Unit := d
  obtain ⟨hb, hu, hn, hf, hc⟩ : (0 ≤ b ∧ b < 65536) ∧ Sp.inR u ∧ Sp.i64 n ∧ Sp.frees (b % 200) u = [] ∧ Sp.cE 9 (Sp.frees (b % 200) u) n := hd
  refine Blk.nf (nf5n9 b u n _) ⟨trivial, brc_igt (fun h => rfl) fun h => ?_⟩
  have h : (u.length : Int) ≤ 30 := h
  have eb : W.wrap .i64 (W.rem b 200) = b % 200 := by rw [W.rem_pos hb.1, W.wi64_in (by omega) (by omega)]
  have hl := (Sp.frees_good (b := b % 200) (u := u)).1
  rw [eb]
  rw [hf] at hc
  exact ⟨⟨hu, by omega, hf⟩, hc, rfl, hc, trivial, by show 1 ≤ 1000000; omega, rfl⟩

theorem good5o1' : Goods Try.prog takLo1 := .cons good9 (.cons good15o (.cons good18o (.cons (good19E 1) (.cons (good20E 1) (.cons good16 (.cons good12 (.cons good13 .nil)))))))
def law5o1 : TCtr := lawC 5 [.v (.int .u16), .l 23 PT, .v (.int .i64)] (fun (d : Int × List Sp.Rm × Int × Unit) => (0 ≤ d.1 ∧ d.1 < 65536) ∧ Sp.inR d.2.1 ∧ Sp.i64 d.2.2.1 ∧ Sp.frees (d.1 % 200) d.2.1 ≠ [] ∧ Sp.cE 1 (Sp.frees (d.1 % 200) d.2.1) d.2.2.1)
theorem good5o1 : GoodC Try.prog law5o1 := by
  refine good_byDB (c := law5o1) (DL := []) (blk := noneK) (lab := noneK) (fn := Try.f5) wide good5o1' (fun c h => by cases h) ⟨by kernel_rfl, by kernel_rfl, by kernel_rfl, by kernel_rfl⟩ (lamOk_body (by kernel_rfl) (by kernel_rfl) (fun id ψ h => by cases h) (fun l rest ψ _ hl => by cases hl)) (fun d hd => ?_)
  obtain ⟨b, u, n, x⟩ : Int × List Sp.Rm × Int × Unit := d
  obtain ⟨hb, hu, hn, hf, hc⟩ : (0 ≤ b ∧ b < 65536) ∧ Sp.inR u ∧ Sp.i64 n ∧ Sp.frees (b % 200) u ≠ [] ∧ Sp.cE 1 (Sp.frees (b % 200) u) n := hd
  refine Blk.nf (nf5o1 b u n _) ⟨trivial, brc_igt (fun h => rfl) fun h => ?_⟩
  have h : (u.length : Int) ≤ 30 := h
  have eb : W.wrap .i64 (W.rem b 200) = b % 200 := by rw [W.rem_pos hb.1, W.wi64_in (by omega) (by omega)]
  have hl := (Sp.frees_good (b := b % 200) (u := u)).1
  rw [eb]
  exact ⟨⟨hu, by omega, hf⟩, hc, ⟨hf, by omega⟩, hc, trivial, by show 1 ≤ 1000000; omega, rfl⟩

theorem good5o9' : Goods Try.prog takLo9 := .cons good9 (.cons good15o (.cons good18o (.cons (good19E 9) (.cons (good20E 9) (.cons good16 (.cons good12 (.cons good13 .nil)))))))
def law5o9 : TCtr := lawC 5 [.v (.int .u16), .l 23 PT, .v (.int .i64)] (fun (d : Int × List Sp.Rm × Int × Unit) => (0 ≤ d.1 ∧ d.1 < 65536) ∧ Sp.inR d.2.1 ∧ Sp.i64 d.2.2.1 ∧ Sp.frees (d.1 % 200) d.2.1 ≠ [] ∧ Sp.cE 9 (Sp.frees (d.1 % 200) d.2.1) d.2.2.1)
theorem good5o9 : GoodC Try.prog law5o9 := by
  refine good_byDB (c := law5o9) (DL := []) (blk := noneK) (lab := noneK) (fn := Try.f5) wide good5o9' (fun c h => by cases h) ⟨by kernel_rfl, by kernel_rfl, by kernel_rfl, by kernel_rfl⟩ (lamOk_body (by kernel_rfl) (by kernel_rfl) (fun id ψ h => by cases h) (fun l rest ψ _ hl => by cases hl)) (fun d hd => ?_)
  obtain ⟨b, u, n, x⟩ : Int × List Sp.Rm × Int × Unit := d
  obtain ⟨hb, hu, hn, hf, hc⟩ : (0 ≤ b ∧ b < 65536) ∧ Sp.inR u ∧ Sp.i64 n ∧ Sp.frees (b % 200) u ≠ [] ∧ Sp.cE 9 (Sp.frees (b % 200) u) n := hd
  refine Blk.nf (nf5o9 b u n _) ⟨trivial, brc_igt (fun h => rfl) fun h => ?_⟩
  have h : (u.length : Int) ≤ 30 := h
  have eb : W.wrap .i64 (W.rem b 200) = b % 200 := by rw [W.rem_pos hb.1, W.wi64_in (by omega) (by omega)]
  have hl := (Sp.frees_good (b := b % 200) (u := u)).1
  rw [eb]
  exact ⟨⟨hu, by omega, hf⟩, hc, ⟨hf, by omega⟩, hc, trivial, by show 1 ≤ 1000000; omega, rfl⟩

theorem good5N' : Goods Try.prog takLN := .cons good9 (.cons good15o (.cons good18o (.cons good19N (.cons good20N (.cons good16 (.cons good12 (.cons good13 .nil)))))))
theorem known5N : KnownOk Try.prog (envL takLN) (knownL takLN blk5N noneK) := knownL_ok wide good5N' _ _
theorem loop5aN : ∀ s Φ, loopP 100 [2, 7, 8, 9, 14, 15] [8, 26] mk5aN psi5aN s Φ → Run Try.prog (.code (.block 0 (blkC (bodyOf Try.f5) 0))) s Φ := by
  refine run_loopB (lx := [2, 8, 9, 14]) (kx := [8]) known5N (fun i : K5 => (i.2.1.length - i.2.2.2.2).toNat) (by kernel_rfl) (lamOk_free (by kernel_rfl)) ?_
  rintro ⟨n, f, a, s, i⟩ Φ ⟨⟨hp, i0, i1, hs⟩, hΦ⟩
  simp only at hp i0 i1 hs hΦ
  obtain ⟨hr, ⟨hf1, hf2⟩, hg, hsum⟩ := id hp
  obtain ⟨c, rfl⟩ : ∃ c : Nat, i = c := ⟨i.toNat, by omega⟩
  rw [Int.toNat_natCast] at hs
  subst hs
  refine Eq.mpr (nf5aN _ _ _ _ n f a _ c  Φ _) ?_
  refine brc_ilt (fun h => ?_) fun h => ?_
  · have h : c < f.length := by have : ((c : Nat) : Int) < ((f.length : Nat) : Int) := h; omega
    have e1 : W.nth f (W.toNat (c : Int)) ((0 : Int), (0 : Int), PUnit.unit) = W.nth f c ((0 : Int), (0 : Int), ()) := rfl
    have hb := Sp.sumN_bound_take hf2 hf1 c
    have hu := hf2 _ (Sp.nth_mem h)
    have hst := Sp.sumN_take h
    rw [e1, W.add_i64 (a := (c : Int)) (b := 1) (by omega) (by omega), W.add_i64 (a := Sp.sumN (f.take c)) (by omega) (by omega), ← hst]
    refine grd_ile (by omega) (grd_nlt h (grd_nlt h ⟨(n, f, a, _, (c : Int) + 1), rfl, ?_, ⟨hp, ?_, ?_, ?_⟩, hΦ⟩))
    · show ((f.length : Int) - ((c : Int) + 1)).toNat < ((f.length : Int) - (c : Int)).toNat; omega
    · show 0 ≤ (c : Int) + 1; omega
    · show (c : Int) + 1 ≤ (f.length : Int); omega
    · show Sp.sumN (f.take (c + 1)) = Sp.sumN (f.take ((c : Int) + 1).toNat)
      rw [show ((c : Int) + 1).toNat = c + 1 by omega]
  · have h : (f.length : Int) ≤ (c : Int) := h
    rw [List.take_of_length_le (by omega)]
    exact hΦ
theorem loop5bN : ∀ s Φ, loopP 100 [2, 8, 9, 14, 16] [8] mk5bN psi5bN s Φ → Run Try.prog (.code (.block 2 (blkC (bodyOf Try.f5) 2))) s Φ := by
  refine run_loopB (lx := [2, 8, 14]) (kx := [8]) known5N (fun j : JTN => (0 - j.2.2.2).toNat) (by kernel_rfl) (lamOk_free (by kernel_rfl)) ?_
  rintro ⟨n, a, s, i⟩ Φ ⟨⟨ha, ⟨hl1, hl2⟩, i0, i1, hs⟩, hΦ⟩
  simp only at ha hl1 hl2 i0 i1 hs hΦ
  have h0 : i = 0 := by have : i ≤ 0 := i1; omega
  subst h0
  refine Eq.mpr (nf5bN _ _ _ _ n a s 0 Φ _) (brc_ilt (fun h => by exfalso; have h : (0 : Int) < 0 := h; omega) fun h => ?_)
  have e : s = n := by rw [hs]; simp [Sp.sumN]
  rw [e]; exact hΦ
theorem blk5N_some {id : Nat} {ψ : Piece} (h : blk5N id = some ψ) : ∀ s Φ, ψ s Φ → Run Try.prog (.code (.block id (blkC (bodyOf Try.f5) id))) s Φ := by
  unfold blk5N at h
  split at h
  · rename_i hb
    have := Nat.eq_of_beq_eq_true hb
    subst this
    cases h; exact loop5aN
  · obtain ⟨rfl, rfl⟩ := one_some h
    exact loop5bN
def law5N : TCtr := lawC 5 [.v (.int .u16), .l 23 PT, .v (.int .i64)] (fun (d : Int × List Sp.Rm × Int × Unit) => (0 ≤ d.1 ∧ d.1 < 65536) ∧ Sp.inR d.2.1 ∧ Sp.i64 d.2.2.1 ∧ Sp.frees (d.1 % 200) d.2.1 ≠ [] ∧ Sp.cN (Sp.frees (d.1 % 200) d.2.1) d.2.2.1)
theorem good5N : GoodC Try.prog law5N := by
  refine good_byDB (c := law5N) (DL := []) (blk := blk5N) (lab := noneK) (fn := Try.f5) wide good5N' (fun c h => by cases h) ⟨by kernel_rfl, by kernel_rfl, by kernel_rfl, by kernel_rfl⟩ (lamOk_body (by kernel_rfl) (by kernel_rfl) (fun id ψ h => blk5N_some h) (fun l rest ψ _ hl => by cases hl)) (fun d hd => ?_)
  obtain ⟨b, u, n, x⟩ : Int × List Sp.Rm × Int × Unit := d
  obtain ⟨hb, hu, hn, hf, hc⟩ : (0 ≤ b ∧ b < 65536) ∧ Sp.inR u ∧ Sp.i64 n ∧ Sp.frees (b % 200) u ≠ [] ∧ Sp.cN (Sp.frees (b % 200) u) n := hd
  refine Blk.nf (nf5N b u n _) ⟨trivial, brc_igt (fun h => rfl) fun h => ?_⟩
  have h : (u.length : Int) ≤ 30 := h
  have eb : W.wrap .i64 (W.rem b 200) = b % 200 := by rw [W.rem_pos hb.1, W.wi64_in (by omega) (by omega)]
  have hl := (Sp.frees_good (b := b % 200) (u := u)).1
  have hg := Sp.take_good (b := b % 200) (u := u) rfl hc.2.1 hc.2.2.1
  rw [eb]
  have hlen : (Sp.frees (b % 200) u).length < 1000000 := by omega
  have hu2 : u.length < 1000000 := by omega
  generalize Sp.frees (b % 200) u = f at hf hc hl hg hlen ⊢
  obtain ⟨hr, hgf, hgl, hsum⟩ := id hg
  have hll := Sp.lefts_len f (Sp.fi f n) n f.length
  refine ⟨⟨hu, hu2, hf⟩, hc, ⟨hf, hlen⟩, hc, trivial, brc_ieq (fun _ => brc_ieq (fun _ => ?_) fun q => absurd rfl q) fun q => absurd rfl q⟩
  rw [hc.2.2.2] at hg hsum
  have hs0 : Sp.sumN ([] : List Sp.Rm) = 0 := rfl
  rw [hs0] at hsum
  refine ⟨by show 1 ≤ 1000000; omega, (n, f, _, 0, 0), rfl, ⟨hg, Int.le_refl _, ?_, ?_⟩, (n, _, Sp.sumN f, 0), rfl, ⟨hr, hg.2.2.1, Int.le_refl _, Int.le_refl _, ?_⟩, brc_ieq (fun _ => congrArg TV.bool (decide_eq_true rfl)) fun q => absurd rfl q⟩
  · show (0 : Int) ≤ (f.length : Int); omega
  · show (0 : Int) = Sp.sumN (f.take 0); rfl
  · show Sp.sumN f = n + 0 - Sp.sumN (([] : List Sp.Rm).take 0); rw [List.take_nil, hs0]; omega

theorem good5O' : Goods Try.prog takLO := .cons good9 (.cons good15o (.cons good18o (.cons good19O (.cons good20O (.cons good16 (.cons good12 (.cons good13 .nil)))))))
theorem known5O : KnownOk Try.prog (envL takLO) (knownL takLO blk5O noneK) := knownL_ok wide good5O' _ _
theorem loop5aO : ∀ s Φ, loopP 100 [2, 7, 8, 9, 14, 15] [8, 26, 103001] mk5aO psi5aO s Φ → Run Try.prog (.code (.block 0 (blkC (bodyOf Try.f5) 0))) s Φ := by
  refine run_loopB (lx := [2, 8, 9, 14]) (kx := [8, 103001]) known5O (fun i : Int × List Sp.Rm × Int × Int × Int × List Sp.Rm => (i.2.1.length - i.2.2.2.2.1).toNat) (by kernel_rfl) (lamOk_free (by kernel_rfl)) ?_
  rintro ⟨n, f, a, s, i, l⟩ Φ ⟨⟨hp, i0, i1, hs⟩, hΦ⟩
  simp only at hp i0 i1 hs hΦ
  obtain ⟨hr, ⟨hf1, hf2⟩, hg, hsum⟩ := id hp
  obtain ⟨c, rfl⟩ : ∃ c : Nat, i = c := ⟨i.toNat, by omega⟩
  rw [Int.toNat_natCast] at hs
  subst hs
  refine Eq.mpr (nf5aO _ _ _ _ n f a _ c l Φ _) ?_
  refine brc_ilt (fun h => ?_) fun h => ?_
  · have h : c < f.length := by have : ((c : Nat) : Int) < ((f.length : Nat) : Int) := h; omega
    have e1 : W.nth f (W.toNat (c : Int)) ((0 : Int), (0 : Int), PUnit.unit) = W.nth f c ((0 : Int), (0 : Int), ()) := rfl
    have hb := Sp.sumN_bound_take hf2 hf1 c
    have hu := hf2 _ (Sp.nth_mem h)
    have hst := Sp.sumN_take h
    rw [e1, W.add_i64 (a := (c : Int)) (b := 1) (by omega) (by omega), W.add_i64 (a := Sp.sumN (f.take c)) (by omega) (by omega), ← hst]
    refine grd_ile (by omega) (grd_nlt h (grd_nlt h ⟨(n, f, a, _, (c : Int) + 1, l), rfl, ?_, ⟨hp, ?_, ?_, ?_⟩, hΦ⟩))
    · show ((f.length : Int) - ((c : Int) + 1)).toNat < ((f.length : Int) - (c : Int)).toNat; omega
    · show 0 ≤ (c : Int) + 1; omega
    · show (c : Int) + 1 ≤ (f.length : Int); omega
    · show Sp.sumN (f.take (c + 1)) = Sp.sumN (f.take ((c : Int) + 1).toNat)
      rw [show ((c : Int) + 1).toNat = c + 1 by omega]
  · have h : (f.length : Int) ≤ (c : Int) := h
    rw [List.take_of_length_le (by omega)]
    exact hΦ
theorem loop5bO : ∀ s Φ, loopP 100 [2, 8, 9, 14, 16] [8, 103001] mk5bO psi5bO s Φ → Run Try.prog (.code (.block 2 (blkC (bodyOf Try.f5) 2))) s Φ := by
  refine run_loopB (lx := [2, 8, 14]) (kx := [8]) known5O (fun j : JTO => (j.2.2.2.2.length - j.2.2.2.1).toNat) (by kernel_rfl) (lamOk_free (by kernel_rfl)) ?_
  rintro ⟨n, a, s, i, l⟩ Φ ⟨⟨ha, ⟨hl1, hl2⟩, i0, i1, hs⟩, hΦ⟩
  simp only at ha hl1 hl2 i0 i1 hs hΦ
  obtain ⟨c, rfl⟩ : ∃ c : Nat, i = c := ⟨i.toNat, by omega⟩
  rw [Int.toNat_natCast] at hs
  have hl3 : ∀ v, v ∈ l → 0 ≤ v.2.1 ∧ v.2.1 ≤ 2000 := fun v hv => ⟨(hl2 v hv).1.2.2.1, (hl2 v hv).1.2.2.2⟩
  refine Eq.mpr (nf5bO _ _ _ _ n a s c l Φ _) ?_
  refine brc_ilt (fun h => ?_) fun h => ?_
  · have h : c < l.length := by have : ((c : Nat) : Int) < ((l.length : Nat) : Int) := h; omega
    have e1 : W.nth l (W.toNat (c : Int)) ((0 : Int), (0 : Int), PUnit.unit) = W.nth l c ((0 : Int), (0 : Int), ()) := rfl
    have hb := Sp.sumN_bound_take hl3 hl1 c
    have hb2 := Sp.sumN_bound_take hl3 hl1 l.length
    rw [List.take_length] at hb2
    obtain ⟨hu, ho⟩ := hl2 _ (Sp.nth_mem h)
    have hst := Sp.sumN_take h
    rw [e1]
    generalize W.nth l c ((0 : Int), (0 : Int), ()) = v at hu ho hst ⊢
    rw [W.add_i64 (a := (c : Int)) (b := 1) (by omega) (by omega), W.sub_i64 (a := s) (by omega) (by omega)]
    refine grd_ile (by omega) (grd_nlt h (grd_nlt h (grd_ile (by omega) (grd_nlt h (grd_nlt h ⟨⟨?_, ?_, ?_, ?_⟩, brc_no ho ⟨(n, a, s - v.2.1, (c : Int) + 1, l), rfl, ?_, ⟨ha, ⟨hl1, hl2⟩, ?_, ?_, ?_⟩, hΦ⟩⟩)))))
    · unfold Sp.i64; omega
    · unfold Sp.i64; omega
    · unfold Sp.i64; omega
    · unfold Sp.i64; omega
    · show ((l.length : Int) - ((c : Int) + 1)).toNat < ((l.length : Int) - (c : Int)).toNat; omega
    · show 0 ≤ (c : Int) + 1; omega
    · show (c : Int) + 1 ≤ (l.length : Int); omega
    · show s - v.2.1 = n + Sp.sumN l - Sp.sumN (l.take ((c : Int) + 1).toNat)
      rw [show ((c : Int) + 1).toNat = c + 1 by omega, hst]; omega
  · have h : (l.length : Int) ≤ (c : Int) := h
    rw [List.take_of_length_le (by omega)] at hs
    have e : s = n := by omega
    rw [e]; exact hΦ
theorem blk5O_some {id : Nat} {ψ : Piece} (h : blk5O id = some ψ) : ∀ s Φ, ψ s Φ → Run Try.prog (.code (.block id (blkC (bodyOf Try.f5) id))) s Φ := by
  unfold blk5O at h
  split at h
  · rename_i hb
    have := Nat.eq_of_beq_eq_true hb
    subst this
    cases h; exact loop5aO
  · obtain ⟨rfl, rfl⟩ := one_some h
    exact loop5bO
def law5O : TCtr := lawC 5 [.v (.int .u16), .l 23 PT, .v (.int .i64)] (fun (d : Int × List Sp.Rm × Int × Unit) => (0 ≤ d.1 ∧ d.1 < 65536) ∧ Sp.inR d.2.1 ∧ Sp.i64 d.2.2.1 ∧ Sp.frees (d.1 % 200) d.2.1 ≠ [] ∧ Sp.cO (Sp.frees (d.1 % 200) d.2.1) d.2.2.1)
theorem good5O : GoodC Try.prog law5O := by
  refine good_byDB (c := law5O) (DL := []) (blk := blk5O) (lab := noneK) (fn := Try.f5) wide good5O' (fun c h => by cases h) ⟨by kernel_rfl, by kernel_rfl, by kernel_rfl, by kernel_rfl⟩ (lamOk_body (by kernel_rfl) (by kernel_rfl) (fun id ψ h => blk5O_some h) (fun l rest ψ _ hl => by cases hl)) (fun d hd => ?_)
  obtain ⟨b, u, n, x⟩ : Int × List Sp.Rm × Int × Unit := d
  obtain ⟨hb, hu, hn, hf, hc⟩ : (0 ≤ b ∧ b < 65536) ∧ Sp.inR u ∧ Sp.i64 n ∧ Sp.frees (b % 200) u ≠ [] ∧ Sp.cO (Sp.frees (b % 200) u) n := hd
  refine Blk.nf (nf5O b u n _) ⟨trivial, brc_igt (fun h => rfl) fun h => ?_⟩
  have h : (u.length : Int) ≤ 30 := h
  have eb : W.wrap .i64 (W.rem b 200) = b % 200 := by rw [W.rem_pos hb.1, W.wi64_in (by omega) (by omega)]
  have hl := (Sp.frees_good (b := b % 200) (u := u)).1
  have hg := Sp.take_good (b := b % 200) (u := u) rfl hc.2.1 hc.2.2.1
  rw [eb]
  have hlen : (Sp.frees (b % 200) u).length < 1000000 := by omega
  have hu2 : u.length < 1000000 := by omega
  generalize Sp.frees (b % 200) u = f at hf hc hl hg hlen ⊢
  obtain ⟨hr, hgf, hgl, hsum⟩ := id hg
  have hll := Sp.lefts_len f (Sp.fi f n) n f.length
  refine ⟨⟨hu, hu2, hf⟩, hc, ⟨hf, hlen⟩, hc, trivial, brc_ieq (fun _ => brc_ieq (fun _ => ?_) fun q => absurd rfl q) fun q => absurd rfl q⟩
  refine ⟨by omega, ?_⟩
  rw [Sp.sameR_yes rfl]
  refine brc_no rfl ⟨(n, f, _, 0, 0, _), rfl, ⟨hg, Int.le_refl _, ?_, ?_⟩, (n, _, Sp.sumN f, 0, _), rfl, ⟨hr, hgl, Int.le_refl _, ?_, ?_⟩, brc_ieq (fun _ => congrArg TV.bool (decide_eq_true rfl)) fun q => absurd rfl q⟩
  · show (0 : Int) ≤ (f.length : Int); omega
  · show (0 : Int) = Sp.sumN (f.take 0); rfl
  · show (0 : Int) ≤ ((Sp.lefts f (Sp.fi f n) n f.length).length : Int); omega
  · show Sp.sumN f = n + Sp.sumN (Sp.lefts f (Sp.fi f n) n f.length) - Sp.sumN ((Sp.lefts f (Sp.fi f n) n f.length).take 0)
    have : Sp.sumN ((Sp.lefts f (Sp.fi f n) n f.length).take 0) = 0 := rfl
    omega

def law5 : TCtr := lawC 5 [.v (.int .u16), .l 23 PT, .v (.int .i64)] (fun (d : Int × List Sp.Rm × Int × Unit) => (0 ≤ d.1 ∧ d.1 < 65536) ∧ Sp.inR d.2.1 ∧ Sp.i64 d.2.2.1)
theorem good5 : GoodC Try.prog law5 where
  there := good5n1.there
  cells := good5n1.cells
  call := fun d hp S => by
    obtain ⟨b, u, n, x⟩ : Int × List Sp.Rm × Int × Unit := d
    obtain ⟨hb, hu, hn⟩ : (0 ≤ b ∧ b < 65536) ∧ Sp.inR u ∧ Sp.i64 n := hp
    have hpre := Sp.frees_pre (b % 200) u hn
    have hle := Sp.fi_le (Sp.frees (b % 200) u) n
    by_cases h : Sp.frees (b % 200) u = []
    · by_cases h1 : n < 1
      · exact good5n1.call (b, u, n, x) ⟨hb, hu, hn, h, hpre, .inl ⟨rfl, h1⟩⟩ S
      · have h0 : (Sp.frees (b % 200) u).length = 0 := by rw [h]; rfl
        have hn1 : 1 ≤ n := by omega
        have hq : Sp.fi (Sp.frees (b % 200) u) n = (Sp.frees (b % 200) u).length := by omega
        exact good5n9.call (b, u, n, x) ⟨hb, hu, hn, h, hpre, .inr ⟨rfl, hn1, hq⟩⟩ S
    · by_cases h1 : n < 1
      · exact good5o1.call (b, u, n, x) ⟨hb, hu, hn, h, hpre, .inl ⟨rfl, h1⟩⟩ S
      · have hn1 : 1 ≤ n := by omega
        by_cases h2 : Sp.fi (Sp.frees (b % 200) u) n = (Sp.frees (b % 200) u).length
        · exact good5o9.call (b, u, n, x) ⟨hb, hu, hn, h, hpre, .inr ⟨rfl, hn1, h2⟩⟩ S
        · have hlt : Sp.fi (Sp.frees (b % 200) u) n < (Sp.frees (b % 200) u).length := by omega
          by_cases h3 : Sp.lefts (Sp.frees (b % 200) u) (Sp.fi (Sp.frees (b % 200) u) n) n (Sp.frees (b % 200) u).length = []
          · exact good5N.call (b, u, n, x) ⟨hb, hu, hn, h, hpre, hn1, hlt, h3⟩ S
          · exact good5O.call (b, u, n, x) ⟨hb, hu, hn, h, hpre, hn1, hlt, h3⟩ S
end Go.Proofs.Ytpohkoijbocpcaa
