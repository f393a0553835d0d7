/-
  Texts of a proof over the translated program: proved evaluators and walks, part 13 of 20.
-/
import Derived.Test.YtjilpkmcddinaaaPartA12
import Derived.Below
import Derived.Great.BuildSlice
import Derived.Handy
import Derived.IntWalk
import Derived.Laws.BitsLemmas
import Derived.Laws.CopyOwn
import Derived.Laws.CopyRow
import Derived.Laws.IdiomStrings
import Derived.Laws.MakeOwn
import Derived.Lib.Hide
import Derived.LoopTactic
import Derived.MapKept
import Derived.Orders
import Derived.OwnWalk
import Derived.Scope
import Derived.ScopeJumps
import Derived.Test.YtjilpkmcddinaaaProg
import Derived.WalkKit
import Derived.WalkMore
set_option linter.unusedVariables false
set_option linter.unusedSimpArgs false
set_option linter.unusedSectionVars false
set_option linter.unnecessarySimpa false
section
set_option maxRecDepth 100000
namespace Go.Proofs.Ytjilpkmcddinaaa
open Go.FM
open Go.RowKit (Below)
theorem nbeq {a b : Nat} : (Nat.beq a b = true) = (a = b) := propext ⟨Nat.eq_of_beq_eq_true, fun h => by subst h; exact Nat.beq_refl a⟩
theorem sameV_eq {x y : HV} (h : sameV x y = true) : x = y := by
  cases x <;> simp only [sameV] at h <;> try (cases h)
  · cases y <;> simp only at h <;> try (cases h)
    rfl
  · cases y <;> simp only at h <;> try (cases h)
    simp only [Bool.and_eq_true, nbeq, beq_iff_eq] at h
    obtain ⟨rfl, rfl, rfl, rfl, rfl⟩ := h
    rfl
theorem sameL_eq : ∀ {a b : List HV}, sameL a b = true → a = b
  | [], [], _ => rfl
  | x :: a, y :: b, h => by
    simp only [sameL, Bool.and_eq_true] at h
    rw [sameV_eq h.1, sameL_eq h.2]
  | [], _ :: _, h => by cases h
  | _ :: _, [], h => by cases h
theorem sameO_eq {x y : HO} (h : sameO x y = true) : x = y ∧ ∃ p b, y = .own p b ∧ isMap b = false := by
  cases x with
  | no => cases h
  | sh b => cases h
  | own p b =>
    cases b with
    | no => cases h
    | map es cl => cases h
    | byt n d =>
      cases y with
      | no => cases h
      | sh b => cases h
      | own q b' =>
        cases b' with
        | byt m e =>
          simp only [sameO, Bool.and_eq_true, nbeq] at h
          obtain ⟨rfl, rfl, rfl⟩ := h
          exact ⟨rfl, _, _, rfl, rfl⟩
        | _ => cases h
    | cells cs =>
      cases y with
      | no => cases h
      | sh b => cases h
      | own q b' =>
        cases b' with
        | cells es =>
          simp only [sameO, Bool.and_eq_true, nbeq] at h
          obtain ⟨rfl, h2⟩ := h
          rw [sameL_eq h2]
          exact ⟨rfl, _, _, rfl, rfl⟩
        | _ => cases h
structure RdOk (w : World) (b1 b2 : Nat) (a : Nat) (e : Ending) (w' : World) : Prop where
  ret : ∃ b c, e = .returned (.tuple #[.slice (some ⟨b, 0, none⟩) 1 c, .int .i64 0]) ∧ w.heap.size ≤ b ∧ 1 ≤ c ∧ c ≤ maxLen ∧ w'.cell? ⟨b, 0, none⟩ = some (.int .u8 a)
  fr : ∀ q, q < w.heap.size → q ≠ b1 → q ≠ b2 → w'.heap[q]? = w.heap[q]?
  sz : w.heap.size ≤ w'.heap.size
  os : w'.os = w.os
  tape : w'.tape = w.tape
  out : w'.output = w.output
theorem hp_sub {k1 k2 : Nat} {h : HT} {k : Nat} (h1 : k1 < 4 ^ 6) (h2 : k2 < 4 ^ 6) (k : Nat) : hp 6 (subH k1 k2 h) k = if k = k1 then hp 6 h k1 else if k = k2 then hp 6 h k2 else .no := by
  unfold subH
  rw [hp_set (deep_set 6 _ _ _ (deep_nil 6)) h1, hp_set (deep_nil 6) h2]
  unfold upd
  rw [hp_lt h1, hp_lt h2]
  split
  · rfl
  · split
    · rfl
    · exact hp_nil 6 k
theorem dev_ex : ∃ Dv : Nat → Nat → World → Prop,
    (∀ w, Calls Try.prog 10 #[.int .i64 20] w fun e w' => ∃ b1 b2 m, e = .returned (.tuple #[.pointer (some ⟨b1, 0, none⟩), m]) ∧ Dv b1 b2 w' ∧ w.heap.size ≤ b1 ∧ w.heap.size ≤ b2 ∧ Below w.heap.size w w') ∧
    (∀ b1 b2 w a, Dv b1 b2 w → 2 ≤ a → a < 18 → Calls Try.prog 48 #[.pointer (some ⟨b1, 0, none⟩), .int .i64 (a : Nat), .int .i64 1] w fun e w' => RdOk w b1 b2 a e w' ∧ Dv b1 b2 w') ∧
    (∀ b1 b2 w w', Dv b1 b2 w → w'.heap[b1]? = w.heap[b1]? → w'.heap[b2]? = w.heap[b2]? → Dv b1 b2 w') ∧
    (∀ b1 b2 w, Dv b1 b2 w → b1 < w.heap.size ∧ b2 < w.heap.size) := by
  have hr := reads20
  unfold readsOk at hr
  split at hr
  · rename_i k1 o1 k2 o2 h c hrun
    split at hr
    · rename_i p a kt ot nt et ct b hk1
      simp only [Bool.and_eq_true, nbeq] at hr
      obtain ⟨⟨rfl, hc4, hl1, hl2⟩, hall⟩ := hr
      have hc4 : c ≤ 4096 := Nat.le_of_ble_eq_true hc4
      have hl1 : k1 < c := Nat.le_of_ble_eq_true hl1
      have hl2 : kt < c := Nat.le_of_ble_eq_true hl2
      have g1 : k1 < 4 ^ 6 := by have : (4 : Nat) ^ 6 = 4096 := by decide
                                 omega
      have g2 : kt < 4 ^ 6 := by have : (4 : Nat) ^ 6 = 4096 := by decide
                                 omega
      have hread : ∀ i, i < 16 → readOk k1 kt (subH k1 kt h) c (2 + i) = true := fun i hi => List.all_eq_true.1 hall i (List.mem_range.2 hi)
      obtain ⟨S, hS⟩ : ∃ S, subH k1 kt h = S := ⟨_, rfl⟩
      have hsub := fun k => hp_sub (h := h) (k := k) g1 g2 k
      rw [hS] at hread hsub
      have hSd : HT.deep 6 S := by rw [← hS]; exact deep_set 6 _ _ _ (deep_set 6 _ _ _ (deep_nil 6))
      have hown : (∃ p b, hp 6 S k1 = .own p b ∧ isMap b = false) ∧ ∃ p b, hp 6 S kt = .own p b ∧ isMap b = false := by
        have := hread 0 (by omega)
        unfold readOk at this
        split at this
        · split at this
          · simp only [Bool.and_eq_true] at this
            obtain ⟨_, p1, b1, q1, q2⟩ := sameO_eq this.2.1
            obtain ⟨_, p2, b2, q3, q4⟩ := sameO_eq this.2.2
            exact ⟨⟨p1, b1, (hp_lt g1).trans q1, q2⟩, p2, b2, (hp_lt g2).trans q3, q4⟩
          · cases this
        · cases this
      obtain ⟨⟨p1, bd1, ho1, hm1⟩, p2, bd2, ho2, hm2⟩ := hown
      have hcase : ∀ k, hp 6 S k = .no ∨ (k = k1 ∧ hp 6 S k = .own p1 bd1) ∨ (k = kt ∧ hp 6 S k = .own p2 bd2) := fun k => by
        by_cases e1 : k = k1
        · subst e1; exact .inr (.inl ⟨rfl, ho1⟩)
        · by_cases e2 : k = kt
          · subst e2; exact .inr (.inr ⟨rfl, ho2⟩)
          · refine .inl ?_
            rw [hsub k, if_neg e1, if_neg e2]
      refine ⟨fun b1 b2 w => ∃ g, (g k1).b = b1 ∧ (g kt).b = b2 ∧ HOk 6 g S c w, ?_, ?_, ?_, ?_⟩
      · intro w
        obtain ⟨_, hct⟩ := callX_ok wideU 10000000 extU_ok 60 10 _ _ _ _ _ _ hrun (by simp)
        refine (hct w (fun _ => ⟨0, 1, 0, 0⟩) [.int .i64 20] (HOk.nil (Nat.zero_le _)) (args_cons arg_int args_nil)).mono ?_
        rintro e w' ⟨u, g', rfl, hok, hpost, hrep⟩
        obtain ⟨vs, rfl, hvl, hvs⟩ := hrep
        match vs, hvl with
        | [u1, u2], _ =>
          have h1 : CRep g' c (.ptr k1 0) u1 := hvs 0 _ u1 rfl rfl
          obtain ⟨_, rfl⟩ := h1
          have hS1 : hp 6 h k1 = hp 6 S k1 := by rw [hsub k1, if_pos rfl]
          have hS2 : hp 6 h kt = hp 6 S kt := by
            rw [hsub kt]
            by_cases e : kt = k1
            · rw [if_pos e, e]
            · rw [if_neg e, if_pos rfl]
          have ow1 := hS1.trans ho1
          have ow2 := hS2.trans ho2
          have hz := (hok.inv.own k1 _ _ ow1).zero
          have hnil : ∀ b, ¬ Owns (fun _ => ⟨0, 1, 0, 0⟩) (hp 6 .nil) b := fun b ⟨k, pre, bd, hk, _⟩ => by rw [hp_nil] at hk; cases hk
          have big : ∀ k pre bd, hp 6 h k = .own pre bd → w.heap.size ≤ (g' k).b := fun k pre bd hk => by
            rcases hpost.ow _ ⟨k, pre, bd, hk, rfl⟩ with q | q
            · exact q
            · exact absurd q (hnil _)
          refine ⟨(g' k1).b, (g' kt).b, u2, ?_, ⟨g', rfl, rfl, hSd, hok.le, hok.inv.sub fun k => ?_⟩, big _ _ _ ow1, big _ _ _ ow2, hpost.os, hpost.tape, hpost.out, hpost.sz, fun q hq => hpost.fr q hq (hnil q)⟩
          · show Ending.returned (.tuple #[.pointer (some (addrOf g' k1 0)), u2]) = _
            unfold addrOf
            rw [hz]
          · rcases hcase k with q | ⟨rfl, q⟩ | ⟨rfl, q⟩
            · exact .inl q
            · exact .inr hS1.symm
            · exact .inr hS2.symm
      · rintro b1 b2 w a ⟨g, rfl, rfl, hok⟩ ha1 ha2
        obtain ⟨i, rfl⟩ : ∃ i, a = 2 + i := ⟨a - 2, by omega⟩
        have hrd := hread i (by omega)
        unfold readOk at hrd
        split at hrd
        · rename_i k o n es cl z h' c' hrun2
          split at hrd
          · rename_i p m d hk
            simp only [Bool.and_eq_true, nbeq, decide_eq_true_eq] at hrd
            obtain ⟨⟨hd, hm, hck, rfl, rfl, rfl, rfl⟩, hs1, hs2⟩ := hrd
            obtain ⟨e1, _⟩ := sameO_eq hs1
            obtain ⟨e2, _⟩ := sameO_eq hs2
            have hck : c ≤ k := Nat.le_of_ble_eq_true hck
            have hm : 1 ≤ m := Nat.le_of_ble_eq_true hm
            have hd : d % 256 = 2 + i := hd
            obtain ⟨_, hct⟩ := callX_ok wideU 10000000 extU_ok 60 48 _ _ _ _ _ _ hrun2 (by simp)
            have hz1 := (hok.inv.own k1 _ _ ho1).zero
            have harg : TReps g c [.ptr k1 0, .int .i64 (.ofNat (2 + i)), .int .i64 1] [.pointer (some ⟨(g k1).b, 0, none⟩), .int .i64 ((2 + i : Nat) : Int), .int .i64 1] := by
              refine args_cons ⟨⟨hl1, (hok.inv.own k1 _ _ ho1).ok⟩, ?_⟩ (args_cons rfl (args_cons rfl args_nil))
              unfold addrOf
              rw [hz1]
            refine (hct w g _ hok harg).mono ?_
            rintro e w' ⟨u, g', rfl, hok', hpost, hrep⟩
            obtain ⟨vs, rfl, hvl, hvs⟩ := hrep
            match vs, hvl with
            | [u1, u2], _ =>
              have q1 : CRep g' c' (.slc k 0 1 1 cl) u1 := hvs 0 _ u1 rfl rfl
              have q2 : CRep g' c' (.int .i64 0) u2 := hvs 1 _ u2 rfl rfl
              obtain ⟨hnm, A, mm, rfl, hmm1, hmm2, _, hlen, _, _, _, hA⟩ := q1
              have q2 : u2 = .int .i64 0 := q2
              subst q2
              have hA := hA (by omega)
              subst hA
              have hko : hp 6 h' k = .own p (.byt m d) := by
                have : k < 4 ^ 6 := Nat.lt_of_lt_of_le hnm.1 hok'.le
                exact (hp_lt this).trans hk
              have hbk := hok'.inv.own k _ _ hko
              obtain ⟨vs2, t, r1, r2, r3, r4⟩ := hbk.plain rfl
              have hcell : vs2[0]? = some (.int .u8 ((2 + i : Nat) : Int)) := by
                have r5 := r4.2
                have := congrArg (fun l => l[0]?) r5
                unfold At.row at this
                rw [r3.1, List.drop_zero] at this
                simp only [List.getElem?_map] at this
                rw [bytesOf_get m d 0 (by omega)] at this
                rw [List.getElem?_take] at this
                split at this
                · rw [this]
                  simp only [Option.map_some]
                  have hb0 : bAt d 0 = 2 + i := by
                    show d / 256 ^ 0 % 256 = 2 + i
                    rw [Nat.pow_zero, Nat.div_one]; exact hd
                  rw [hb0, UInt8.toNat_ofNat', Nat.mod_eq_of_lt (by omega)]
                · cases this
              have hag : ∀ k, k < c → g' k = g k := fun k hk => hpost.ag k (.inl hk)
              have hsame : ∀ k, hp 6 S k = .no ∨ ∃ p b, hp 6 S k = .own p b ∧ hp 6 h' k = .own p b ∧ isMap b = false := fun k => by
                rcases hcase k with q | ⟨rfl, q⟩ | ⟨rfl, q⟩
                · exact .inl q
                · exact .inr ⟨p1, bd1, q, by rw [hp_lt g1, e1, ← hp_lt g1]; exact q, hm1⟩
                · exact .inr ⟨p2, bd2, q, by rw [hp_lt g2, e2, ← hp_lt g2]; exact q, hm2⟩
              have hnew : w.heap.size ≤ (g' k).b := by
                rcases hpost.ow _ ⟨k, _, _, hko, rfl⟩ with q | ⟨k', pre, bd, hk', hb'⟩
                · exact q
                · exfalso
                  have hlt : k' < c := hok.inv.lt k' (by rw [hk']; simp)
                  rcases hsame k' with q | ⟨p, b, q, q', _⟩
                  · rw [q] at hk'; cases hk'
                  · rw [← hag k' hlt] at hb'
                    have := hok'.inv.inj k' _ _ k _ _ q' hko hb'
                    omega
              refine ⟨⟨⟨(g' k).b, mm, ?_, hnew, hmm1, hmm2, ?_⟩, fun q hq n1 n2 => hpost.fr q hq fun ⟨k', pre, bd, hk', hb'⟩ => ?_, hpost.sz, hpost.os, hpost.tape, hpost.out⟩, g', ?_, ?_, hSd, hok.le, HInv.back hok.inv hok'.inv hag hsame⟩
              · show Ending.returned (.tuple #[.slice (some (addrOf g' k 0)) 1 mm, .int .i64 0]) = _
                unfold addrOf
                rw [r3.1]
              · rw [cell_of_row w' _ 0 _ t (0, 0) r1]
                simpa using hcell
              · rcases hcase k' with q | ⟨rfl, _⟩ | ⟨rfl, _⟩
                · rw [q] at hk'; cases hk'
                · exact n1 hb'.symm
                · exact n2 hb'.symm
              · rw [hag k1 hl1]
              · rw [hag kt hl2]
          · cases hrd
        · cases hrd
      · rintro b1 b2 w w' ⟨g, rfl, rfl, hok⟩ e1 e2
        refine ⟨g, rfl, rfl, hSd, hok.le, ?_, ?_, ?_, ?_, hok.inv.lt, hok.inv.pre⟩
        · intro k pre b hk
          have hw : w'.heap[(g k).b]? = w.heap[(g k).b]? := by
            rcases hcase k with q | ⟨rfl, _⟩ | ⟨rfl, _⟩
            · rw [q] at hk; cases hk
            · exact e1
            · exact e2
          exact (hok.inv.own k _ _ hk).mono' (fun _ _ => rfl) (Nat.le_refl _) hw
        · intro k b hk
          rcases hcase k with q | ⟨rfl, q⟩ | ⟨rfl, q⟩ <;> (rw [q] at hk; cases hk)
        · intro k b j pre b' hk
          rcases hcase k with q | ⟨rfl, q⟩ | ⟨rfl, q⟩ <;> (rw [q] at hk; cases hk)
        · exact hok.inv.inj
      · rintro b1 b2 w ⟨g, rfl, rfl, hok⟩
        exact ⟨(hok.inv.own k1 _ _ ho1).lt, (hok.inv.own kt _ _ ho2).lt⟩
    · cases hr
  · cases hr
end Go.Proofs.Ytjilpkmcddinaaa
end
