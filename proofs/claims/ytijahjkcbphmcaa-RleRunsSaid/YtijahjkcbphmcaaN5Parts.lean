/-
  Texts of a proof over the translated program: N5Parts.
-/
import Derived.Test.YtijahjkcbphmcaaN5PartsNf
set_option linter.unusedVariables false
namespace Sp
open Go Go.AbsM
theorem lastX_get : ∀ (l : List Int) (x : Int), (x :: l).getD ((x :: l).length - 1) 0 = lastX x l
  | [], x => rfl
  | y :: r, x => lastX_get r y
theorem inU_app {a b : List Int} (ha : inU a) (hb : inU b) : inU (a ++ b) := fun x hx => by
  rcases List.mem_append.1 hx with h | h
  · exact ha x h
  · exact hb x h
theorem join_ok {a b : List Int} (ha : inU a) (hb : inU b) (hl : a.length + b.length < 1000) (h : ∀ x l y r, a = x :: l → b = y :: r → y ≠ lastX x l) :
    rget (encR (runs a) ++ encR (runs b)) ((a.length : Int) + (b.length : Int)) = (runs (a ++ b), 0, 0) ∧ (runs (a ++ b)).length = (runs a).length + (runs b).length := by
  have hj := runs_join h
  have := rget_runs (inU_app ha hb) (by rw [List.length_append]; omega)
  rw [List.length_append, hj, encR_app, ← hj] at this
  refine ⟨?_, by rw [hj, List.length_append]⟩
  have e : ((a.length : Int) + (b.length : Int)) = ((a.length + b.length : Nat) : Int) := by omega
  rw [e]; exact this
theorem join_bad {x : Int} {l r : List Int} (ha : inU (x :: l)) (hb : inU (lastX x l :: r)) (hl : (x :: l).length + (lastX x l :: r).length < 1000) :
    (rget (encR (runs (x :: l)) ++ encR (runs (lastX x l :: r))) (((x :: l).length : Int) + ((lastX x l :: r).length : Int))).2.2 = 2 ∧ (runs ((x :: l) ++ lastX x l :: r)).length + 1 = (runs (x :: l)).length + (runs (lastX x l :: r)).length := by
  refine ⟨?_, runsG_glue l 1 x r⟩
  unfold rget
  rw [if_neg (by omega), ← encR_app]
  have h1 := runs_in ha (by omega)
  have h2 := runs_in hb (by omega)
  have h3 := runs_len (x :: l)
  have h4 := runs_len (lastX x l :: r)
  have hin : inP (runs (x :: l) ++ runs (lastX x l :: r)) := fun p hp => by
    rcases List.mem_append.1 hp with h | h
    · exact h1 p h
    · exact h2 p h
  have he := encR_len _ hin
  rw [List.length_append] at he
  obtain ⟨p, q, hpq, hp⟩ : ∃ p q, runs (lastX x l :: r) = p :: q ∧ p.2.1 = lastX x l := by
    show ∃ p q, runsG 1 (lastX x l) r = p :: q ∧ p.2.1 = lastX x l
    have gen : ∀ (r : List Int) (c y : Int), ∃ p q, runsG c y r = p :: q ∧ p.2.1 = y := by
      intro r
      induction r with
      | nil => intro c y; exact ⟨_, _, rfl, rfl⟩
      | cons z r ih =>
        intro c y
        rw [runsG]
        split
        · exact ih _ _
        · exact ⟨_, _, rfl, rfl⟩
    exact gen r 1 _
  rw [hpq] at hin he h4 ⊢
  have hlast : lastN ([] ++ runs (x :: l)) = some p.2.1 := by rw [hp]; exact lastN_runsG l 1 x []
  have ht := runs_told (x :: l)
  exact rgetF_bad (runs (x :: l)) [] ((encR (runs (x :: l) ++ p :: q)).length + 1) (((x :: l).length : Int) + ((lastX x l :: r).length : Int)) _ p q rfl (by omega) hin (runsG_chain l 1 x _ (by omega) (fun h => by cases h)) (by rw [ht]; omega) (by omega) hlast
end Sp
namespace Go.Proofs.Ytijahjkcbphmcaa
open Go.AbsM
theorem good27k : GoodC Try.prog ctr27k where
  there := good27.there
  cells := good27.cells
  call := fun d hp S => by
    obtain ⟨l, x⟩ : List Int × Unit := d
    obtain ⟨hu, hl⟩ : Sp.inU l ∧ l.length < 999999 := hp
    by_cases h : l.length = 0
    · have e : ctr27k.out (l, x) = .a .nils := if_pos h
      exact Eq.mpr (congrArg (fun y => CallC Try.prog ctr27k.f ((t1s ctr27k.sig (l, x)).map (T1.emb [])) S S y) (congrArg (TV.emb []) e)) (good27n.call (l, x) h S)
    · have e : ctr27k.out (l, x) = .o (.own 5 (.int .u8) (Sp.encR (Sp.runs l))) := if_neg h
      exact Eq.mpr (congrArg (fun y => CallC Try.prog ctr27k.f ((t1s ctr27k.sig (l, x)).map (T1.emb [])) S S y) (congrArg (TV.emb []) e)) (good27.call (l, x) ⟨hu, hl, h⟩ S)
theorem good28k : GoodC Try.prog ctr28k where
  there := good28o.there
  cells := good28o.cells
  call := fun d hp S => by
    obtain ⟨b, k, x⟩ : List Int × Int × Unit := d
    by_cases h : (Sp.rget b k).2.2 = 0
    · have e : ctr28k.out (b, k, x) = outR (b, k, x) := if_pos h
      exact Eq.mpr (congrArg (fun y => CallC Try.prog ctr28k.f ((t1s ctr28k.sig (b, k, x)).map (T1.emb [])) S S y) (congrArg (TV.emb []) e)) (good28o.call (b, k, x) ⟨hp, h⟩ S)
    · have e : ctr28k.out (b, k, x) = outE (b, k, x) := if_neg h
      exact Eq.mpr (congrArg (fun y => CallC Try.prog ctr28k.f ((t1s ctr28k.sig (b, k, x)).map (T1.emb [])) S S y) (congrArg (TV.emb []) e)) (good28e.call (b, k, x) ⟨hp, h⟩ S)
theorem goodPa : Goods Try.prog partsL := .cons good26 (.cons good27k (.cons good28k (.cons good30 (.cons (good22 .nil) .nil))))
def law11 : TCtr := lawC 11 [.l 39 (.int .u64), .l 39 (.int .u64)] (fun (d : List Int × List Int × Unit) => Sp.inU d.1 ∧ Sp.inU d.2.1)
theorem tail_ok {X : List Int} {k : Int} {l : List Int} {A B : Int} (hr : Sp.rget X k = (Sp.runs l, 0, 0)) (hl : l.length < 1000) {na nb : Nat} (hna : na < 1000) (hnb : nb < 1000) (hA : 0 ≤ A ∧ A < 1000) (hB : 0 ≤ B ∧ B < 1000) (hlen : ((Sp.runs l).length : Int) = A + B) :
    (Sp.told (Sp.rget X k).1).length < 1000000 ∧ brc (Sp.same (Sp.told (Sp.rget X k).1) l) (l.length < 1000000 ∧ na < 1000000 ∧ nb < 1000000 ∧ TV.bool (W.ieq (Int.ofNat (Sp.runs l).length) (W.add .i64 A B)) = TV.bool true) (TV.bool false = TV.bool true) := by
  rw [hr]
  simp only [Sp.runs_told]
  have e : W.add .i64 A B = A + B := W.add_i64 (by omega) (by omega)
  have e2 : Int.ofNat (Sp.runs l).length = A + B := hlen
  rw [e, e2, ieq_self]
  exact ⟨by omega, brc_yes (decide_eq_true rfl) ⟨by omega, by omega, by omega, rfl⟩⟩
theorem good11 : GoodC Try.prog law11 := by
  refine good_plain (fn := Try.f11) wide goodPa ⟨by kernel_rfl, by kernel_rfl, by kernel_rfl, by kernel_rfl⟩ (by kernel_rfl) fun d hd => ?_
  obtain ⟨a, b, x⟩ : List Int × List Int × Unit := d
  obtain ⟨ha, hb⟩ : Sp.inU a ∧ Sp.inU b := hd
  refine Eq.mpr (nf11 a b _) ⟨trivial, ?_⟩
  have e1 : W.ofNat (W.len a) = (a.length : Int) := rfl
  have e2 : W.ofNat (W.len b) = (b.length : Int) := rfl
  have ek : W.ofNat (W.len (a ++ b)) = (a.length : Int) + (b.length : Int) := by
    show ((a ++ b).length : Int) = _; rw [List.length_append]; omega
  have ex0 : ∀ y : List Int, W.app [] y = y := fun y => rfl
  have ex1 : ∀ y z : List Int, W.app y z = y ++ z := fun y z => rfl
  rw [e1, e2]
  refine brc_igt (fun _ => rfl) fun hla => brc_igt (fun _ => rfl) fun hlb => ?_
  have ra := Sp.runs_len a
  have rb := Sp.runs_len b
  have ea := Sp.encR_len _ (Sp.runs_in ha (by omega))
  have eb := Sp.encR_len _ (Sp.runs_in hb (by omega))
  have hab : (a ++ b).length = a.length + b.length := List.length_append
  have hxl : (Sp.encR (Sp.runs a) ++ Sp.encR (Sp.runs b)).length = (Sp.encR (Sp.runs a)).length + (Sp.encR (Sp.runs b)).length := List.length_append
  have hA : (0 : Int) ≤ Int.ofNat (Sp.runs a).length ∧ Int.ofNat (Sp.runs a).length < 1000 := by
    show (0 : Int) ≤ ((Sp.runs a).length : Int) ∧ ((Sp.runs a).length : Int) < 1000; omega
  have hB : (0 : Int) ≤ Int.ofNat (Sp.runs b).length ∧ Int.ofNat (Sp.runs b).length < 1000 := by
    show (0 : Int) ≤ ((Sp.runs b).length : Int) ∧ ((Sp.runs b).length : Int) < 1000; omega
  simp only [ek, ex0, ex1]
  refine grd_nle (by simp only [W.nmul, W.nadd, W.len]; omega) (grd_nle (by simp only [W.nmul, W.nadd, W.len]; omega) ⟨⟨ha, by omega⟩, fun h0 => ⟨⟨hb, by omega⟩, fun h1 => ?_, fun h1 => grd_nle (by simp only [W.nmul, W.nadd, W.len]; omega) ?_⟩, fun h0 => grd_nle (by simp only [W.nmul, W.nadd, W.len]; omega) ⟨⟨hb, by omega⟩, fun h1 => ?_, fun h1 => grd_nle (by simp only [W.nmul, W.nadd, W.len]; omega) ?_⟩⟩)
  · obtain rfl : a = [] := List.length_eq_zero_iff.1 h0
    obtain rfl : b = [] := List.length_eq_zero_iff.1 h1
    have J := (Sp.join_ok ha hb (by omega) (fun x l y r h => by cases h)).1
    have J2 := (Sp.join_ok ha hb (by omega) (fun x l y r h => by cases h)).2
    refine ⟨⟨Sp.bytes_nil, by decide, by omega, by omega⟩, fun _ => ?_, fun h => absurd (congrArg (fun y => y.2.2) J) h⟩
    exact brc_igt (fun h => by omega) fun _ => tail_ok J (by omega) (by omega) (by omega) hA hB (by show ((Sp.runs ([] ++ [])).length : Int) = ((Sp.runs []).length : Int) + ((Sp.runs []).length : Int); omega)
  · obtain rfl : a = [] := List.length_eq_zero_iff.1 h0
    have J := (Sp.join_ok ha hb (by omega) (fun x l y r h => by cases h)).1
    have J2 := (Sp.join_ok ha hb (by omega) (fun x l y r h => by cases h)).2
    refine ⟨⟨Sp.encR_bytes _, by omega, by omega, by omega⟩, fun _ => ?_, fun h => absurd (congrArg (fun y => y.2.2) J) h⟩
    exact brc_igt (fun h => by omega) fun _ => tail_ok J (by omega) (by omega) (by omega) hA hB (by show ((Sp.runs ([] ++ b)).length : Int) = ((Sp.runs []).length : Int) + ((Sp.runs b).length : Int); omega)
  · obtain rfl : b = [] := List.length_eq_zero_iff.1 h1
    have J := (Sp.join_ok ha hb (by omega) (fun x l y r _ h => by cases h)).1
    have J2 := (Sp.join_ok ha hb (by omega) (fun x l y r _ h => by cases h)).2
    refine grd_nle (by simp only [W.nmul, W.nadd, W.len]; omega) ⟨⟨?_, ?_, by omega, by omega⟩, fun _ => ?_, fun h => absurd (congrArg (fun y => y.2.2) J) h⟩
    · exact Sp.bytes_app (Sp.encR_bytes _) Sp.bytes_nil
    · rw [List.append_nil]; omega
    · exact brc_igt (fun _ => brc_igt (fun h => by omega) fun _ => tail_ok J (by omega) (by omega) (by omega) hA hB (by show ((Sp.runs (a ++ [])).length : Int) = ((Sp.runs a).length : Int) + ((Sp.runs []).length : Int); omega)) fun h => by omega
  · obtain ⟨x, l, rfl⟩ : ∃ x l, a = x :: l := by
      cases a with
      | nil => exact absurd rfl h0
      | cons x l => exact ⟨x, l, rfl⟩
    obtain ⟨y, r, rfl⟩ : ∃ y r, b = y :: r := by
      cases b with
      | nil => exact absurd rfl h1
      | cons y r => exact ⟨y, r, rfl⟩
    have p1 : W.sub .i64 ((x :: l).length : Int) 1 = ((x :: l).length : Int) - 1 := Sp.sub_i64' (by omega) (by omega)
    have p2 : W.toNat (((x :: l).length : Int) - 1) = (x :: l).length - 1 := by show Int.toNat _ = _; omega
    have p3 : W.nth (x :: l) ((x :: l).length - 1) 0 = Sp.lastX x l := Sp.lastX_get l x
    have p4 : W.nth (y :: r) 0 0 = y := rfl
    have hlx : 0 < (x :: l).length := Nat.succ_pos _
    have hly : 0 < (y :: r).length := Nat.succ_pos _
    simp only [p1, p2, p3, p4]
    refine ⟨⟨Sp.bytes_app (Sp.encR_bytes _) (Sp.encR_bytes _), by omega, by omega, by omega⟩, fun hz => ?_, fun hz => ?_⟩
    · refine brc_igt (fun _ => brc_igt (fun _ => grd_ile (by omega) (grd_nlt (by simp only [W.len]; omega) (grd_nlt hly (brc_ieq (fun heq => ?_) fun hne => ?_)))) fun h => by omega) fun h => by omega
      · subst heq
        have := (Sp.join_bad ha hb (by omega)).1
        rw [this] at hz; exact absurd hz (by decide)
      · have J := Sp.join_ok ha hb (by omega) (fun x' l' y' r' h h' => by cases h; cases h'; exact fun e => hne e.symm)
        exact tail_ok J.1 (by omega) (by omega) (by omega) hA hB (by show ((Sp.runs ((x :: l) ++ y :: r)).length : Int) = ((Sp.runs (x :: l)).length : Int) + ((Sp.runs (y :: r)).length : Int); omega)
    · refine brc_igt (fun _ => brc_igt (fun _ => grd_ile (by omega) (grd_nlt (by simp only [W.len]; omega) (grd_nlt hly (brc_ieq (fun heq => ?_) fun hne => ?_)))) fun h => by omega) fun h => by omega
      · subst heq
        have J := Sp.join_bad ha hb (by omega)
        refine brc_ieq (fun _ => ⟨by omega, by omega, by omega, ?_⟩) fun h => absurd J.1 h
        have q1 : W.add .i64 (Int.ofNat (Sp.runs (x :: l)).length) (Int.ofNat (Sp.runs (Sp.lastX x l :: r)).length) = ((Sp.runs (x :: l)).length : Int) + ((Sp.runs (Sp.lastX x l :: r)).length : Int) := W.add_i64 (by show (-9223372036854775808 : Int) ≤ ((Sp.runs (x :: l)).length : Int) + ((Sp.runs (Sp.lastX x l :: r)).length : Int); omega) (by show ((Sp.runs (x :: l)).length : Int) + ((Sp.runs (Sp.lastX x l :: r)).length : Int) < 9223372036854775808; omega)
        rw [q1, Sp.sub_i64' (by omega) (by omega)]
        have q2 : Int.ofNat (Sp.runs ((x :: l) ++ Sp.lastX x l :: r)).length = ((Sp.runs (x :: l)).length : Int) + ((Sp.runs (Sp.lastX x l :: r)).length : Int) - 1 := by
          have := J.2
          show ((Sp.runs ((x :: l) ++ Sp.lastX x l :: r)).length : Int) = _; omega
        rw [q2, ieq_self]; rfl
      · have J := Sp.join_ok ha hb (by omega) (fun x' l' y' r' h h' => by cases h; cases h'; exact fun e => hne e.symm)
        exact absurd (congrArg (fun y => y.2.2) J.1) hz
end Go.Proofs.Ytijahjkcbphmcaa
