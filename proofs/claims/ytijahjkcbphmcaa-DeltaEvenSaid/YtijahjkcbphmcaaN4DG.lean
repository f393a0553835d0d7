/-
  Texts of a proof over the translated program: N4DG.
-/
import Derived.Test.YtijahjkcbphmcaaN4DGNf
set_option linter.unusedVariables false
set_option linter.unusedSimpArgs false
namespace Sp
open Go Go.AbsM
theorem even_len : ∀ (a st : Int) (k : Nat), (even a st k).length = k
  | _, _, 0 => rfl
  | a, st, k + 1 => by simp only [even, List.length_cons, even_len (a + st) st k]
theorem even_snoc : ∀ (a st : Int) (k : Nat), even a st (k + 1) = even a st k ++ [a + k * st]
  | a, st, 0 => by simp [even]
  | a, st, k + 1 => by
    have h := even_snoc (a + st) st k
    have e : a + st + (k : Int) * st = a + ((k + 1 : Nat) : Int) * st := by
      rw [Int.natCast_add, Int.add_mul]; show _ = a + (↑k * st + 1 * st); omega
    rw [e] at h
    show a :: even (a + st) st (k + 1) = a :: even (a + st) st k ++ [_]
    rw [h]; rfl
theorem even_mem : ∀ (a st : Int) (k : Nat) (x : Int), x ∈ even a st k → ∃ j : Nat, j < k ∧ x = a + j * st
  | _, _, 0, x, h => by cases h
  | a, st, k + 1, x, h => by
    rcases List.mem_cons.1 h with rfl | h
    · exact ⟨0, by omega, by simp⟩
    · obtain ⟨j, hj, rfl⟩ := even_mem (a + st) st k x h
      refine ⟨j + 1, by omega, ?_⟩
      rw [Int.natCast_add, Int.add_mul]; show _ = a + (↑j * st + 1 * st); omega
theorem mul_in {st : Int} {j : Nat} (h0 : -32768 ≤ st) (h1 : st < 32768) (hj : j < 64) : -2097152 ≤ (j : Int) * st ∧ (j : Int) * st ≤ 2097152 := by
  constructor
  · have : (j : Int) * (-32768) ≤ (j : Int) * st := Int.mul_le_mul_of_nonneg_left h0 (by omega)
    omega
  · have : (j : Int) * st ≤ (j : Int) * 32768 := Int.mul_le_mul_of_nonneg_left (by omega) (by omega)
    omega
theorem even_in {v st : Int} {k : Nat} (hv : -2147483648 ≤ v ∧ v < 2147483648) (hs : -32768 ≤ st ∧ st < 32768) (hk : k < 64) : inI (even v st k) := fun x hx => by
  obtain ⟨j, hj, rfl⟩ := even_mem v st k x hx
  have := mul_in (j := j) hs.1 hs.2 (by omega)
  omega
theorem even_steps {st : Int} (hs : -32768 ≤ st ∧ st < 32768) : ∀ (k : Nat) (a : Int), steps a (even (a + st) st k) = List.replicate k (zig st)
  | 0, _ => rfl
  | k + 1, a => by
    show zig (W.sub .i64 (a + st) a) :: steps (a + st) (even (a + st + st) st k) = _
    have e : W.sub .i64 (a + st) a = st := by unfold W.sub; rw [wrap_i64]; omega
    rw [e, even_steps hs k (a + st)]; rfl
theorem even_flat {v st : Int} (hs : -32768 ≤ st ∧ st < 32768) (k : Nat) : flat (steps 0 (even v st k)) := by
  intro j h1 hj
  cases k with
  | zero => exact absurd hj (by simp [even, steps])
  | succ k =>
    have e : steps 0 (even v st (k + 1)) = zig (W.sub .i64 v 0) :: List.replicate k (zig st) := by
      show zig _ :: steps v (even (v + st) st k) = _
      rw [even_steps hs]
    rw [e] at hj ⊢
    simp only [List.length_cons, List.length_replicate] at hj
    obtain ⟨j, rfl⟩ : ∃ i, j = i + 1 := ⟨j - 1, by omega⟩
    obtain ⟨k, rfl⟩ : ∃ i, k = i + 1 := ⟨k - 1, by omega⟩
    show (List.replicate (k + 1) (zig st)).getD j 0 = (List.replicate (k + 1) (zig st)).getD 0 0
    rw [List.getD_eq_getElem?_getD, List.getElem?_replicate_of_lt (by omega)]
    rfl
end Sp
namespace Go.Proofs.Ytijahjkcbphmcaa
open Go.AbsM
theorem goodEv : Goods Try.prog evenL := .cons good33 (.cons good34 (.cons good37 (.cons good35 (.cons good39 .nil))))
theorem known14e : KnownOk Try.prog (envL evenL) (knownL evenL blk14e noneK) := knownL_ok wide goodEv blk14e noneK
theorem known14' : KnownOk Try.prog (envL evenL) (knownL evenL blk14 noneK) := knownL_ok wide goodEv blk14 noneK
def mu14a (i : Int × Int × Int) : Nat := 0
def mu14e (i : List Int × List Int) : Nat := 0
def mu14 (i : Int × Int × Int × Nat) : Nat := 64 - i.2.2.2
def mu14c (i : List Int × List Int × List Int × Int) : Nat := i.2.2.1.length - i.2.2.2.toNat
theorem wrem {n : Int} (h : 0 ≤ n) : W.wrap .i64 (W.rem n 60) = n % 60 := by
  rw [W.rem_pos h]; exact W.wi64_in (by omega) (by omega)
theorem loop14ea : ∀ s Φ, loopP 90 [0, 1, 2, 6, 7, 8] [] mk14a psi14a s Φ → Run Try.prog (.code (.block 0 (blkC (bodyOf Try.f14) 0))) s Φ := by
  refine run_loopB (lx := [6, 7]) (kx := []) known14e mu14a (by kernel_rfl) (lamOk_free (by kernel_rfl)) ?_
  rintro ⟨v, st, n⟩ Φ ⟨⟨h0, h1⟩, hΦ⟩
  refine Eq.mpr (nf14ea _ mk14a psi14a mu14a v st n Φ _) ?_
  have h0 : 0 ≤ n := h0
  have h1 : n % 60 = 0 := h1
  rw [wrem h0]
  exact brc_ilt (fun h => by omega) fun _ => hΦ
theorem loop14ee : ∀ s Φ, loopP 90 [6, 7, 9, 10, 11] [34, 36] mk14e psi14e s Φ → Run Try.prog (.code (.block 2 (blkC (bodyOf Try.f14) 2))) s Φ := by
  refine run_loopB (lx := [6, 7, 9]) (kx := [34]) known14e mu14e (by kernel_rfl) (lamOk_free (by kernel_rfl)) ?_
  rintro ⟨b, s⟩ Φ ⟨h0, hΦ⟩
  refine Eq.mpr (nf14ee _ mk14e psi14e mu14e b s Φ _) ?_
  have h0 : s.length ≤ 1 := h0
  have e1 : W.ofNat (W.len s) = (s.length : Int) := rfl
  rw [e1]
  exact brc_ilt (fun h => by omega) fun _ => hΦ
theorem loop14 : ∀ s Φ, loopP 90 [0, 1, 2, 6, 7, 8] [32] mk14 psi14 s Φ → Run Try.prog (.code (.block 0 (blkC (bodyOf Try.f14) 0))) s Φ := by
  refine run_loopB (lx := [6, 7]) (kx := [32]) known14' mu14 (by kernel_rfl) (lamOk_free (by kernel_rfl)) ?_
  rintro ⟨v, st, n, k⟩ Φ ⟨⟨hv, hs, h0, h1, hk⟩, hΦ⟩
  simp only at hv hs h0 h1 hk hΦ
  have ev : W.wrap .i64 v = v := W.wi64_in (by omega) (by omega)
  have es : W.wrap .i64 st = st := W.wi64_in (by omega) (by omega)
  have em : ∀ j : Nat, j < 64 → W.add .i64 v (W.mul .i64 (j : Int) st) = v + j * st := fun j hj => by
    have := Sp.mul_in (j := j) hs.1 hs.2 hj
    rw [W.mul_i64 (by omega) (by omega), W.add_i64 (by omega) (by omega)]
  cases k with
  | zero =>
    refine Eq.mpr (nf14a _ mk14 psi14 mu14 v st n Φ _) ?_
    rw [wrem h0, ev, es]
    refine brc_ilt (fun h => ⟨(v, st, n, 1), ?_, ?_, ⟨hv, hs, h0, h1, ?_⟩, hΦ⟩) fun h => by omega
    · have e := em 0 (by omega)
      have e : W.add .i64 v (W.mul .i64 0 st) = v + (0 : Nat) * st := e
      rw [e]
      have : v + ((0 : Nat) : Int) * st = v := by simp
      rw [this]; rfl
    · show 64 - 1 < 64 - 0; omega
    · show ((1 : Nat) : Int) ≤ n % 60; omega
  | succ k =>
    refine Eq.mpr (nf14b _ mk14 psi14 mu14 v st n ((k + 1 : Nat) : Int) (Sp.even v st (k + 1)) Φ _) ?_
    rw [wrem h0, ev, es]
    have hl := Sp.even_len v st (k + 1)
    refine brc_ilt (fun h => ?_) fun h => ?_
    · rw [em (k + 1) (by omega), W.add_i64 (by omega) (by omega)]
      refine grd_nle (by simp only [W.nmul, W.nadd, W.len, List.length_cons, List.length_nil]; omega) ⟨(v, st, n, k + 2), ?_, ?_, ⟨hv, hs, h0, h1, ?_⟩, hΦ⟩
      · have e := Sp.even_snoc v st (k + 1)
        show _ = mk14b (v, st, n, ((k + 1 + 1 : Nat) : Int), Sp.even v st (k + 1 + 1))
        rw [e]; rfl
      · show 64 - (k + 2) < 64 - (k + 1); omega
      · show ((k + 2 : Nat) : Int) ≤ n % 60; omega
    · have : k + 1 = (n % 60).toNat := by omega
      unfold Sp.evenN at hΦ
      rw [← this] at hΦ; exact hΦ
theorem loop14c : ∀ s Φ, loopP 90 [6, 7, 9, 10, 11] [32, 34, 36] mk14c psi14c s Φ → Run Try.prog (.code (.block 2 (blkC (bodyOf Try.f14) 2))) s Φ := by
  refine run_loopB (lx := [6, 7, 9]) (kx := [32, 34]) known14' mu14c (by kernel_rfl) (lamOk_free (by kernel_rfl)) ?_
  rintro ⟨l, b, s, i⟩ Φ ⟨⟨hf, h0, h1, hl⟩, hΦ⟩
  simp only at hf h0 h1 hl hΦ
  refine Eq.mpr (nf14c _ mk14c psi14c mu14c l b s i Φ _) ?_
  have e1 : W.ofNat (W.len s) = (s.length : Int) := rfl
  rw [e1]
  obtain ⟨n, rfl⟩ : ∃ n : Nat, i = n := ⟨i.toNat, by omega⟩
  have e2 : W.toNat (n : Int) = n := rfl
  have e3 : W.nth s n 0 = s.getD n 0 := rfl
  have e4 : W.nth s 1 0 = s.getD 1 0 := rfl
  rw [e2, e3, e4]
  refine brc_ilt (fun h => ?_) fun _ => hΦ
  have hn : n < s.length := by omega
  have h1 : 1 < s.length := by omega
  refine grd_ile (by omega) (grd_nlt hn (grd_nlt hn (grd_nlt h1 (grd_nlt h1 (brc_ine (fun h => absurd (hf n (by omega) hn) h) fun _ => ?_)))))
  rw [W.add_i64 (by omega) (by omega)]
  refine ⟨(l, b, s, (n : Int) + 1), rfl, ?_, ⟨hf, ?_, ?_, hl⟩, hΦ⟩
  · show s.length - ((n : Int) + 1).toNat < s.length - (n : Int).toNat; omega
  · show 1 ≤ (n : Int) + 1; omega
  · show (n : Int) + 1 ≤ s.length; omega
def pre14 (d : Int × Int × Int × Unit) : Prop := (-2147483648 ≤ d.1 ∧ d.1 < 2147483648) ∧ (-32768 ≤ d.2.1 ∧ d.2.1 < 32768) ∧ 0 ≤ d.2.2.1 ∧ d.2.2.1 < 256
def law14e : TCtr := lawC 14 [.v (.int .i32), .v (.int .i16), .v (.int .u8)] (fun (d : Int × Int × Int × Unit) => pre14 d ∧ d.2.2.1 % 60 = 0)
def law14o : TCtr := lawC 14 [.v (.int .i32), .v (.int .i16), .v (.int .u8)] (fun (d : Int × Int × Int × Unit) => pre14 d ∧ ¬ d.2.2.1 % 60 = 0)
def law14 : TCtr := lawC 14 [.v (.int .i32), .v (.int .i16), .v (.int .u8)] (fun (d : Int × Int × Int × Unit) => pre14 d)
theorem good14e : GoodC Try.prog law14e := by
  refine good_by (blk := blk14e) (lab := noneK) (fn := Try.f14) wide goodEv ⟨by kernel_rfl, by kernel_rfl, by kernel_rfl, by kernel_rfl⟩ (lamOk_body (by kernel_rfl) (by kernel_rfl) (fun id ψ h => ?_) (fun l rest ψ _ hl => by cases hl)) fun d hd => Blk.un ?_
  · have h : blk14e id = some ψ := h
    unfold blk14e at h
    split at h
    · rename_i hb
      have := Nat.eq_of_beq_eq_true hb
      subst this
      cases h; exact loop14ea
    · obtain ⟨rfl, rfl⟩ := one_some h
      exact loop14ee
  · obtain ⟨v, st, n, x⟩ : Int × Int × Int × Unit := d
    obtain ⟨⟨hv, hs, h0, h9⟩, h1⟩ : ((-2147483648 ≤ v ∧ v < 2147483648) ∧ (-32768 ≤ st ∧ st < 32768) ∧ 0 ≤ n ∧ n < 256) ∧ n % 60 = 0 := hd
    have non : ∀ x : Int, List.Mem x [] → -9223372036854775808 ≤ x ∧ x < 9223372036854775808 := fun x hx => by cases hx
    have p := Sp.put_back (l := []) (fun x hx => by cases hx) (by show 0 ≤ 65536; omega)
    have hd0 : Sp.dput [] = [0] := by decide
    rw [hd0] at p
    refine Blk.nf (nf14e v st n _) ⟨trivial, (v, st, n), rfl, ⟨h0, h1⟩, ⟨non, by show 0 ≤ 65536; omega⟩, ⟨non, by show 1 ≤ 1000000; omega⟩, ([0], []), rfl, Nat.zero_le _, ⟨p.2.2.1, by show 1 < 9223372036854775807; omega⟩, fun h => absurd p.1 h, fun _ => ⟨?_, ?_⟩⟩
    · show (Sp.dgot [0] (([] : List Int).length : Int)).length < 1000000
      rw [p.2.1]; show 0 < 1000000; omega
    · exact grd_nlt (by show 0 < 1; omega) (grd_nlt (by show 0 < 1; omega) rfl)
theorem good14o : GoodC Try.prog law14o := by
  refine good_by (blk := blk14) (lab := noneK) (fn := Try.f14) wide goodEv ⟨by kernel_rfl, by kernel_rfl, by kernel_rfl, by kernel_rfl⟩ (lamOk_body (by kernel_rfl) (by kernel_rfl) (fun id ψ h => ?_) (fun l rest ψ _ hl => by cases hl)) fun d hd => Blk.un ?_
  · have h : blk14 id = some ψ := h
    unfold blk14 at h
    split at h
    · rename_i hb
      have := Nat.eq_of_beq_eq_true hb
      subst this
      cases h; exact loop14
    · obtain ⟨rfl, rfl⟩ := one_some h
      exact loop14c
  · obtain ⟨v, st, n, x⟩ : Int × Int × Int × Unit := d
    obtain ⟨⟨hv, hs, h0, h9⟩, h1⟩ : ((-2147483648 ≤ v ∧ v < 2147483648) ∧ (-32768 ≤ st ∧ st < 32768) ∧ 0 ≤ n ∧ n < 256) ∧ ¬ n % 60 = 0 := hd
    have hk : (n % 60).toNat < 64 := by omega
    have hin := Sp.even_in hv hs hk
    have hlen := Sp.even_len v st (n % 60).toNat
    have hfl := Sp.even_flat (v := v) hs (n % 60).toNat
    have hi' : Sp.inI (Sp.evenN v st n) := hin
    generalize hg : Sp.even v st (n % 60).toNat = l at hin hlen hfl
    have hl : Sp.evenN v st n = l := hg
    refine Blk.nf (nf14 v st n _) ⟨trivial, (v, st, n, 0), rfl, ⟨hv, hs, h0, h1, by show (0 : Int) ≤ n % 60; omega⟩, ?_⟩
    show (Sp.inI (Sp.evenN v st n) ∧ (Sp.evenN v st n).length ≤ 65536) ∧ _
    rw [hl]
    obtain ⟨p1, p2, p3, p4⟩ := Sp.put_back hin (by omega)
    have hsl := Sp.steps_len 0 l
    have hdl := Sp.dput_len l
    have hw := Sp.width64 (Sp.steps_in 0 l)
    have hw0 := Sp.width_nonneg (Sp.steps 0 l)
    refine ⟨⟨hin, by omega⟩, ⟨hin, by omega⟩, brc_ine (fun h => ?_) fun _ => ⟨(l, Sp.dput l, Sp.steps 0 l, 1), rfl, ⟨hfl, Int.le_refl _, ?_, ?_⟩, ⟨p3, ?_⟩, fun h => absurd p1 h, fun _ => ⟨?_, brc_yes ?_ ?_⟩⟩⟩
    · refine absurd ?_ h
      show ((Sp.steps 0 l).length : Int) = (l.length : Int); rw [hsl]
    · show (1 : Int) ≤ ((Sp.steps 0 l).length : Int); omega
    · show (Sp.steps 0 l).length < 1000000; omega
    · show (Sp.dput l).length < 9223372036854775807; omega
    · show (Sp.dgot (Sp.dput l) (l.length : Int)).length < 1000000
      rw [p2]; omega
    · show Sp.same (Sp.dgot (Sp.dput l) (l.length : Int)) l = true
      rw [p2]; exact Sp.same_same _
    · have hpos : 0 < (Sp.dput l).length := Nat.succ_pos _
      refine grd_nlt hpos (grd_nlt hpos ?_)
      show TV.bool (W.ieq ((Sp.dput l).length : Int) (W.add .i64 1 (W.quo .i64 (W.add .i64 (W.mul .i64 (l.length : Int) (W.wrap .i64 (Sp.width (Sp.steps 0 l)))) 7) 8))) = TV.bool true
      have hm0 : 0 ≤ (l.length : Int) * Sp.width (Sp.steps 0 l) := Int.mul_nonneg (by omega) hw0
      have hm1 : (l.length : Int) * Sp.width (Sp.steps 0 l) ≤ (l.length : Int) * 64 := Int.mul_le_mul_of_nonneg_left hw (by omega)
      have hsz : Sp.size (l.length : Int) (Sp.width (Sp.steps 0 l)) = ((l.length : Int) * Sp.width (Sp.steps 0 l) + 7) / 8 := by
        unfold Sp.size
        rw [if_pos]
        exact decide_eq_true ⟨by omega, by omega, hw0, hw⟩
      have hd1 : ((Sp.dput l).length : Int) = 1 + Sp.size (l.length : Int) (Sp.width (Sp.steps 0 l)) := by
        rw [← p4]; show (((_ :: _) : List Int).length : Int) = _
        rw [List.length_cons]; omega
      rw [hsz] at hd1
      rw [W.wi64_in (a := Sp.width (Sp.steps 0 l)) (by omega) (by omega), W.mul_i64 (by omega) (by omega), W.add_i64 (b := 7) (by omega) (by omega), W.quo_i64 (by omega) (by omega) (by omega), W.add_i64 (a := 1) (by omega) (by omega), hd1]
      have : ∀ z : Int, W.ieq z z = true := fun z => by simp [W.ieq]
      rw [this]
theorem in14 {a b c : Int} (h0 : inKind .i32 a) (h1 : inKind .i16 b) (h2 : inKind .u8 c) : pre14 (a, b, c, ()) := by
  refine ⟨?_, ?_, in_u8 h2⟩
  · simp [inKind, IntKind.min, IntKind.max, IntKind.bits, IntKind.signed] at h0
    show -2147483648 ≤ a ∧ a < 2147483648; omega
  · simp [inKind, IntKind.min, IntKind.max, IntKind.bits, IntKind.signed] at h1
    show -32768 ≤ b ∧ b < 32768; omega
theorem good14 : GoodC Try.prog law14 where
  there := good14o.there
  cells := good14o.cells
  call := fun d hp S => by
    obtain ⟨v, st, n, x⟩ : Int × Int × Int × Unit := d
    by_cases h : n % 60 = 0
    · exact good14e.call (v, st, n, x) ⟨hp, h⟩ S
    · exact good14o.call (v, st, n, x) ⟨hp, h⟩ S
end Go.Proofs.Ytijahjkcbphmcaa
