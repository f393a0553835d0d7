/-
  Texts of a proof over the translated program: proved evaluators and walks, part 16 of 20.
-/
import Derived.Test.YtjilpkmcddinaaaPartA15
import Derived.ArgAppend
import Derived.Below
import Derived.Deep.RegionHeld3
import Derived.Deep.RegionWith
import Derived.Great.BuildSlice
import Derived.Ground.GgzProg
import Derived.Ground.SlgmProg
import Derived.Handy
import Derived.IntWalk
import Derived.Laws.BitsLemmas
import Derived.Laws.CopyOwn
import Derived.Laws.CopyRow
import Derived.Laws.IdiomStrings
import Derived.Laws.MakeOwn
import Derived.Laws.Rows
import Derived.Lib.Hide
import Derived.Lib.SlKeysI
import Derived.LoopTactic
import Derived.MapKept
import Derived.Maps.Ext
import Derived.Maps.Own
import Derived.Maps.OwnSet
import Derived.Maps.RangeWalk
import Derived.Maps.Views
import Derived.Orders
import Derived.OwnWalk
import Derived.Scope
import Derived.ScopeJumps
import Derived.Shelf.SlIterI.Nil
import Derived.Shelf.SlIterI.Sorted
import Derived.Shelf.SortM.Plain
import Derived.Shelf.SortM.SortNone
import Derived.Test.YtjilpkmcddinaaaProg
import Derived.WalkKit
import Derived.WalkMore
import Derived.WalkSpells
set_option linter.unusedVariables false
set_option linter.unusedSimpArgs false
set_option linter.unusedSectionVars false
set_option linter.unnecessarySimpa false
section
set_option maxRecDepth 100000
namespace Go.Proofs.Ytjilpkmcddinaaa
open Go.RowKit Go.Maps Go.ChangeMaps Go.MapKept Go.WideShapes Go.FM
open Go.WideElems (Fit rd rg pl rd_val elemAt rd_key rg_of)
theorem any_fst {H : Type} {l l' : List (Lit × DataW H)} (h : l.map Prod.fst = l'.map Prod.fst) (kl : Lit) : l.any (fun p => p.1.sameKey kl) = l'.any (fun p => p.1.sameKey kl) := by
  have e : ∀ m : List (Lit × DataW H), m.any (fun p => p.1.sameKey kl) = (m.map Prod.fst).any (fun q => q.sameKey kl) := fun m => by rw [List.any_map]; rfl
  rw [e l, e l', h]
theorem owns_re {P : Program} {k : TypeId} {w : World} {b n : Nat} {D : DataW Unit} {R R' : Value → Option (DataW Unit × List MemPlace)} (h : w.ownsMap P k R b n D) (hs : ∀ v y, R v = some y → ∃ y', R' v = some y') :
    ∃ D', w.ownsMap P k R' b n D' ∧ (∀ kl, has D' kl = has D kl) ∧ size D' = size D := by
  obtain ⟨es, cl, hb, F, hn, rfl⟩ := h
  have hr : ∀ x ∈ es.toList, ∃ y y', rd P k R x = some y ∧ rd P k R' x = some y' ∧ y'.1 = y.1 := by
    intro x hx
    obtain ⟨y, hy⟩ := F.reads x hx
    obtain ⟨z, hz, _⟩ := rd_val hy
    obtain ⟨y', hy'⟩ := hs _ _ hz
    exact ⟨y, (y.1, y'.1), hy, by simp [WideElems.rd, rd_key hy, hy'], rfl⟩
  have hm : (es.toList.map (rg P k R')).map Prod.fst = (es.toList.map (rg P k R)).map Prod.fst := by
    rw [List.map_map, List.map_map]
    refine List.map_congr_left fun x hx => ?_
    obtain ⟨y, y', h1, h2, h3⟩ := hr x hx
    simp [rg_of h1, rg_of h2, h3]
  refine ⟨_, ⟨es, cl, hb, ⟨F.size, F.stamped, fun x hx => ?_⟩, hn, rfl⟩, fun kl => ?_, ?_⟩
  · obtain ⟨y, y', h1, h2, h3⟩ := hr x hx
    exact ⟨y', h2⟩
  · rw [has_eq, has_eq, (sorted_perm _).any_eq, (sorted_perm _).any_eq]
    exact any_fst hm kl
  · simp [Maps.size, length_sorted]
theorem keys_perm' {D D' : DataW Unit} {S : List Fr} (hC : Canon D') (hh : ∀ kl, has D' kl = has D kl) (hK : KR D S) (hap : S.Pairwise fun f g => f.a ≠ g.a) : (intKeys D').Perm (S.map fun f => (f.a : Int)) := by
  obtain ⟨es, rfl, hb, hk⟩ := hC
  have hne := apart_of_rising hb
  have hkey : ∀ p ∈ es, ∃ f ∈ S, p.1 = .int .i64 (f.a : Int) := fun p hp => by
    have : has (.map es : DataW Unit) p.1 = true := by
      rw [has_eq]
      exact List.any_eq_true.2 ⟨p, hp, WideAt.sameKey_self (hk p hp)⟩
    rw [hh] at this
    exact hK.keys _ this
  refine (List.perm_ext_iff_of_nodup ?_ ?_).2 fun x => ?_
  · show (es.map fun p => Go.intOf p.1).Nodup
    refine List.pairwise_map.2 (hne.imp_of_mem fun {p q} hp hq h e => h ?_)
    obtain ⟨f, _, ef⟩ := hkey p hp
    obtain ⟨g, _, eg⟩ := hkey q hq
    rw [ef, eg] at e ⊢
    have e' : (f.a : Int) = g.a := e
    rw [e']
  · refine List.pairwise_map.2 (hap.imp fun {f g} h e => h ?_)
    exact Int.ofNat.inj e
  · show x ∈ (es.map fun p => Go.intOf p.1) ↔ _
    simp only [List.mem_map]
    constructor
    · rintro ⟨p, hp, rfl⟩
      obtain ⟨f, hf, e⟩ := hkey p hp
      exact ⟨f, hf, by rw [e]; rfl⟩
    · rintro ⟨f, hf, rfl⟩
      have h1 := hK.has' f.a
      rw [← hh] at h1
      have h2 : S.any (fun g => g.a == f.a) = true := List.any_eq_true.2 ⟨f, hf, by simp⟩
      rw [h2, has_eq] at h1
      obtain ⟨p, hp, e⟩ := List.any_eq_true.1 h1
      exact ⟨p, hp, by rw [WideAt.sameKey_eq e]; rfl⟩
theorem Try.heldP {w : World} {pb mb fr k now : Nat} {S : List Fr} (hp : PoolI w pb mb fr k now S) : Calls Try.prog 20 #[.pointer (some ⟨pb, 0, none⟩)] w fun e w' => ∃ (v : Value) (L : List Nat), e = .returned v ∧ L.Perm (S.map Fr.a) ∧ L.Pairwise (· < ·) ∧
    w'.ownsRow w.heap.size 3 1 v L.length (L.map i64v) ∧ (v = .slice none 0 0 ↔ L = []) ∧ Below w.heap.size w w' := by
  obtain ⟨D, hD, hK⟩ := hp.map
  obtain ⟨D', h1, h2, h3⟩ := owns_re (R' := anyR) hD (fun v y _ => ⟨_, rfl⟩)
  have hap : S.Pairwise fun f g => f.a ≠ g.a := hp.apart.imp fun h => h.1
  have hper := keys_perm' (h1.canon Try.law3) h2 hK hap
  have hsz : size D' = S.length := h3.trans hK.size
  have hle := hp.le
  have hf2 := hp.f2
  refine (Try.held w pb 0 mb _ D' hp.c3 h1 (by rw [hsz]; unfold maxLen; omega) (by rw [hsz]; omega)).mono ?_
  rintro e w' ⟨v, ss, rfl, hss, hrow, hnil, hb⟩
  have hP : ss.Perm (S.map fun f => (f.a : Int)) := hss.trans hper
  obtain ⟨M, hM⟩ : ∃ M, M = ss.mergeSort (fun x y => decide (x ≤ y)) := ⟨_, rfl⟩
  rw [← hM] at hrow
  have hMs : M.Perm ss := hM ▸ List.mergeSort_perm ss _
  have hMP : M.Perm (S.map fun f => (f.a : Int)) := hMs.trans hP
  have hMn : ∀ x ∈ M, 0 ≤ x := fun x hx => by
    obtain ⟨f, _, rfl⟩ := List.mem_map.1 (hMP.mem_iff.1 hx)
    omega
  have hMsort : M.Pairwise (· ≤ ·) := by
    have := List.pairwise_mergeSort (le := fun x y : Int => decide (x ≤ y)) (fun a b c h1 h2 => by simp at h1 h2 ⊢; omega) (fun a b => by simp; omega) ss
    rw [← hM] at this
    exact this.imp fun h => by simpa using h
  have hMnd : M.Nodup := hMP.nodup_iff.2 (List.pairwise_map.2 (hap.imp fun {f g} h e => h (Int.ofNat.inj e)))
  have hLM : (M.map Int.toNat).map i64v = M.map (Value.int .i64) := by
    rw [List.map_map]
    refine List.map_congr_left fun x hx => ?_
    have := hMn x hx
    show Value.int .i64 ((x.toNat : Nat) : Int) = _
    rw [Int.toNat_of_nonneg this]
  refine ⟨v, M.map Int.toNat, rfl, ?_, ?_, ?_, ?_, hb⟩
  · have := hMP.map Int.toNat
    rw [List.map_map] at this
    exact this.trans (by refine List.Perm.of_eq (List.map_congr_left fun f _ => by simp))
  · refine List.pairwise_map.2 ((List.Pairwise.and hMsort hMnd).imp_of_mem fun {x y} hx hy h => ?_)
    have := hMn x hx
    have := hMn y hy
    have h1 := h.1
    have h2 : x ≠ y := h.2
    omega
  · rw [hLM, List.length_map, hMs.length_eq]
    exact hrow
  · rw [hnil]
    constructor
    · rintro rfl
      rw [List.perm_nil.1 hMs]; rfl
    · intro h
      have := List.map_eq_nil_iff.1 h
      rw [this] at hMs
      exact List.nil_perm.1 hMs
theorem Try.pinned0 {w : World} {pb mb fr k now : Nat} {S : List Fr} (hp : PoolI w pb mb fr k now S) (h0 : ∀ f ∈ S, f.pins = 0) : Calls Try.prog 22 #[.pointer (some ⟨pb, 0, none⟩)] w fun e w' => e = .returned (.int .i64 0) ∧ Below w.heap.size w w' := by
  have hpp := hp
  obtain ⟨D, hD, hK⟩ := hp.map
  obtain ⟨es, cl, hb, F, hn, rfl⟩ := hD
  have hpin : ∀ f ∈ S, pinR w 1 (.pointer (some ⟨f.fb, 0, none⟩)) = some (.lit (.int .i64 (f.pins : Int)), []) := fun f hf => by
    have hI := hp.frs f hf
    have hlt : f.fb < w.heap.size := hI.lt _ (by simp [Fr.blks])
    have hc := hI.c1
    unfold pinR
    simp only [hlt, if_true, Nat.zero_add, hc]
  have hr : ∀ x ∈ es.toList, ∃ f ∈ S, x.val = .pointer (some ⟨f.fb, 0, none⟩) ∧ keyOf Try.prog 3 x.key = some (.int .i64 (f.a : Int)) ∧ WideElems.rd Try.prog 3 (pinR w 1) x = some (.int .i64 (f.a : Int), .lit (.int .i64 (f.pins : Int))) := by
    intro x hx
    obtain ⟨y, hy⟩ := F.reads x hx
    have hkey := rd_key hy
    obtain ⟨z, hz, hz2⟩ := rd_val hy
    obtain ⟨b, hv, rfl⟩ := ptrR_some hz
    have hat := atKey_sorted (es.toList.map (WideElems.rg Try.prog 3 ptrR)) (fit_rising Try.law3 F) y.1 (Try.law3.key hkey)
    have h1 := fun zd => hat.2 (WideElems.rg Try.prog 3 ptrR x) (List.mem_map.2 ⟨x, hx, rfl⟩) (by rw [rg_of hy]) zd
    have hhas := Maps.has_true_of_atKey h1
    obtain ⟨f, hf, e⟩ := hK.keys _ hhas
    have h2 := hK.atk f hf .nil
    rw [← e, h1 .nil, rg_of hy, hz2] at h2
    have h3 : b = f.fb := by
      simp only [DataW.lit.injEq, Lit.int.injEq, true_and] at h2
      omega
    subst h3
    rw [e] at hkey
    exact ⟨f, hf, hv, hkey, by simp [WideElems.rd, hkey, hv, hpin f hf]⟩
  have F' : WideElems.Fit Try.prog 3 (pinR w 1) es cl := ⟨F.size, F.stamped, fun x hx => by obtain ⟨f, _, _, _, h⟩ := hr x hx; exact ⟨_, h⟩⟩
  have hown : w.ownsMap Try.prog 3 (pinR w 1) mb S.length (.map ((es.toList.map (WideElems.rg Try.prog 3 (pinR w 1))).foldr DataW.insert [])) := ⟨es, cl, hb, F', hn, rfl⟩
  obtain ⟨D', hD'⟩ : ∃ D', D' = (DataW.map ((es.toList.map (WideElems.rg Try.prog 3 (pinR w 1))).foldr DataW.insert []) : DataW Unit) := ⟨_, rfl⟩
  have hle := hp.le
  have hf2 := hp.f2
  have hsz : size D' ≤ 100000 := by
    rw [hD']
    have := hown.size_le
    omega
  have hpos : (intKeys D').filter (posOf D') = [] := by
    rw [List.filter_eq_nil_iff]
    intro x hx hpx
    unfold posOf at hpx
    split at hpx
    · rename_i kd p hat
      have hx' : ∃ q ∈ es.toList, Go.intOf (WideElems.rg Try.prog 3 (pinR w 1) q).1 = x := by
        rw [hD'] at hx
        obtain ⟨q, hq, rfl⟩ := List.mem_map.1 hx
        obtain ⟨x2, h1, rfl⟩ := List.mem_map.1 ((sorted_perm _).mem_iff.1 hq)
        exact ⟨x2, h1, rfl⟩
      obtain ⟨q, hq, rfl⟩ := hx'
      obtain ⟨f, hf, hv, hkey, hrd⟩ := hr q hq
      have hat' := atKey_sorted (es.toList.map (WideElems.rg Try.prog 3 (pinR w 1))) (fit_rising Try.law3 F') (.int .i64 (f.a : Int)) (Try.law3.key hkey)
      have h1 := hat'.2 (WideElems.rg Try.prog 3 (pinR w 1) q) (List.mem_map.2 ⟨q, hq, rfl⟩) (by rw [rg_of hrd]) .nil
      rw [← hD'] at h1
      rw [rg_of hrd] at hat h1
      have e1 : (DataW.lit (Lit.int kd p) : DataW Unit) = .lit (.int .i64 (f.pins : Int)) := hat.symm.trans h1
      simp only [DataW.lit.injEq, Lit.int.injEq] at e1
      have := h0 f hf
      simp at hpx
      omega
    · cases hpx
  rw [← hD'] at hown
  refine (Try.pinned w pb 0 mb _ D' hp.c3 (hp.lt pb (.inl rfl)) hown hsz).mono ?_
  rintro e w' ⟨rfl, hb'⟩
  rw [hpos]
  exact ⟨rfl, hb'⟩
end Go.Proofs.Ytjilpkmcddinaaa
end

section
set_option maxRecDepth 100000
namespace Go.Proofs.Ytjilpkmcddinaaa
open Go.RowKit Go.Maps
theorem wp_scope_once {P : Program} {c R : Code} {a : Act} {w : World} {Q : Exit → Act → World → Prop} (l : Nat) (J : Act → World → Prop) (μ : Act → World → Nat) (hf : findLabel c l = some (Code.skip.seq R))
    (first : (∀ a w, J a w → R.wp P (Exit.jump l J Q) a w) → c.wp P (Exit.jump l J Q) a w) (pass : ∀ a w, J a w → R.wp P (Exit.jump l (fun a' w' => J a' w' ∧ μ a' w' < μ a w) Q) a w) : (Code.scope c).wp P Q a w := by
  refine wp_scope_jumps l J μ hf (first fun a' w' h => ?_) (fun a w h => wp_seq (wp_skip (pass a w h)))
  refine Code.wp_mono ?_ (pass a' w' h)
  intro e a2 w2 h2
  cases e <;> first | exact h2 | exact ⟨h2.1, h2.2.1⟩
def intV : Value → Int
  | .int _ q => q
  | _ => 0
theorem elder_trans {k : Nat} {a f g : Fr} (h1 : elderB k a g = true) (h2 : elderB k f g = false) : elderB k f a = false := by
  unfold elderB at *
  split at h1 <;> split at h2 <;> split <;> simp at h1 h2 ⊢ <;> omega
theorem elder_self (k : Nat) (a : Fr) : elderB k a a = false := by
  unfold elderB
  simp
def VicI (k : Nat) (S : List Fr) (l : List Nat) (best : Nat) (fnd : Bool) : Prop :=
  (fnd = false ∧ ∀ f ∈ S, f.a ∈ l → 0 < f.pins) ∨ (fnd = true ∧ ∃ g ∈ S, best = g.a ∧ g.pins = 0 ∧ ∀ f ∈ S, f.a ∈ l → f.pins = 0 → elderB k f g = false)
theorem apart_eq {S : List Fr} (h : S.Pairwise fun f g => f.a ≠ g.a) {f g : Fr} (hf : f ∈ S) (hg : g ∈ S) (e : f.a = g.a) : f = g := by
  induction S with
  | nil => cases hf
  | cons x r ih =>
    have h1 := List.pairwise_cons.1 h
    rcases List.mem_cons.1 hf with e1 | hf'
    · rcases List.mem_cons.1 hg with e2 | hg'
      · rw [e1, e2]
      · exact absurd (e1 ▸ e) (h1.1 g hg')
    · rcases List.mem_cons.1 hg with e2 | hg'
      · exact absurd (e2 ▸ e.symm) (h1.1 f hf')
      · exact ih h1.2 hf' hg'
theorem mem_take1 {L : List Nat} {i x y : Nat} (h : L[i]? = some x) : y ∈ L.take (i + 1) ↔ y ∈ L.take i ∨ y = x := by
  rw [List.take_add_one, h]
  simp
theorem row_cells {w : World} {B : Nat} {v : Value} {L : List Nat} (h : w.ownsRow B 3 1 v L.length (L.map i64v)) : ∃ A c, v = .slice A L.length c ∧ L.length ≤ c ∧ ∀ (j x : Nat), L[j]? = some x → ∃ g, A = some ⟨g, 0, none⟩ ∧ B ≤ g ∧ w.cell? ⟨g, j, none⟩ = some (.int .i64 (x : Int)) := by
  rcases h.2 with ⟨rfl, e⟩ | ⟨g, cap, cur, rfl, hB, hg, h1, h2, h3, h4⟩
  · have := List.eq_nil_of_length_eq_zero e
    subst this
    exact ⟨none, 0, rfl, Nat.le_refl _, fun j x h => by simp at h⟩
  · refine ⟨_, cap, rfl, h1, fun j x hj => ⟨g, rfl, hB, ?_⟩⟩
    rw [cell_of_row w g j _ 3 _ hg]
    have : (cur.toList.take (L.length * 1))[j]? = (L.map i64v)[j]? := by rw [h4]
    have hl := (List.getElem?_eq_some_iff.1 hj).1
    rw [List.getElem?_take, if_pos (by omega), List.getElem?_map, hj, Array.getElem?_toList] at this
    exact this
structure LoopV (w wr : World) (pb mb fr k now : Nat) (S : List Fr) (A : Option Addr) (n c : Nat) (L : List Nat) (best i : Nat) (fnd : Bool) : Prop where
  pool : PoolI wr pb mb fr k now S
  bel : Below w.heap.size w wr
  len : L.length = n
  hi : i ≤ n
  at' : ∀ (j x : Nat), L[j]? = some x → ∃ g, A = some ⟨g, 0, none⟩ ∧ wr.cell? ⟨g, j, none⟩ = some (.int .i64 (x : Int))
  perm : L.Perm (S.map Fr.a)
  vic : VicI k S (L.take i) best fnd
theorem VicI.more {k : Nat} {S : List Fr} {L : List Nat} {i best : Nat} {fnd : Bool} (hap : S.Pairwise fun f g => f.a ≠ g.a) {f : Fr} (hf : f ∈ S) (hx : L[i]? = some f.a) (h : VicI k S (L.take i) best fnd) (h1 : f.pins = 0 → fnd = true ∧ ∀ g ∈ S, best = g.a → elderB k f g = false) : VicI k S (L.take (i + 1)) best fnd := by
  rcases h with ⟨e, h⟩ | ⟨e, g, hg, eg, pg, h⟩
  · refine .inl ⟨e, fun f' hf' hm => ?_⟩
    rcases (mem_take1 hx).1 hm with hm | hm
    · exact h f' hf' hm
    · rw [apart_eq hap hf' hf hm]
      rcases Nat.eq_zero_or_pos f.pins with hp | hp
      · have := (h1 hp).1
        rw [e] at this; cases this
      · exact hp
  · refine .inr ⟨e, g, hg, eg, pg, fun f' hf' hm hp => ?_⟩
    rcases (mem_take1 hx).1 hm with hm | hm
    · exact h f' hf' hm hp
    · have := apart_eq hap hf' hf hm
      subst this
      exact (h1 hp).2 g hg eg
theorem VicI.turn {k : Nat} {S : List Fr} {L : List Nat} {i best : Nat} {fnd : Bool} (hap : S.Pairwise fun f g => f.a ≠ g.a) {f : Fr} (hf : f ∈ S) (hx : L[i]? = some f.a) (h : VicI k S (L.take i) best fnd) (hp : f.pins = 0) (h1 : fnd = true → ∀ g ∈ S, best = g.a → elderB k f g = true) : VicI k S (L.take (i + 1)) f.a true := by
  refine .inr ⟨rfl, f, hf, rfl, hp, fun f' hf' hm hp' => ?_⟩
  rcases (mem_take1 hx).1 hm with hm | hm
  · rcases h with ⟨e, h⟩ | ⟨e, g, hg, eg, pg, h⟩
    · have := h f' hf' hm
      omega
    · exact elder_trans (h1 e g hg eg) (h f' hf' hm hp')
  · rw [apart_eq hap hf' hf hm]
    exact elder_self k f
theorem VicI.perm {k : Nat} {S : List Fr} {L M : List Nat} (h : L.Perm M) {best : Nat} {fnd : Bool} (hv : VicI k S L best fnd) : VicI k S M best fnd := by
  rcases hv with ⟨e, q⟩ | ⟨e, g, h1, h2, h3, q⟩
  · exact .inl ⟨e, fun f hf hm => q f hf (h.mem_iff.2 hm)⟩
  · exact .inr ⟨e, g, h1, h2, h3, fun f hf hm => q f hf (h.mem_iff.2 hm)⟩
theorem cellB {w w' : World} {p : Addr} {v : Value} (h : w.cell? p = some v) (hb : Below w.heap.size w w') : w'.cell? p = some v := (hb.cell (block_lt_of_cell h)).trans h
theorem Try.victim {w : World} {pb mb fr k now : Nat} {S : List Fr} (hp : PoolI w pb mb fr k now S) (h0 : ∀ f ∈ S, 1 ≤ f.ts.length) : Calls Try.prog 47 #[.pointer (some ⟨pb, 0, none⟩)] w fun e w' => ∃ (best : Nat) (fnd : Bool), e = .returned (.tuple #[.int .i64 (best : Int), .bool fnd]) ∧ VicI k S (S.map Fr.a) best fnd ∧ Below w.heap.size w w' := by
  have Hp := Lib.hid hp
  have H0 := Lib.hid h0
  clear hp h0
  go_enter Try.func47, Try.ntmps47
  go_wp2_with fail
  refine wp_scope_once 0 (fun a' wr => ∃ (A : Option Addr) (n c : Nat) (L : List Nat) (best i : Nat) (fnd : Bool), LoopV w wr pb mb fr k now S A n c L best i fnd ∧ ∃ u1 u8 u9 u10 u11 u12 u13 u14 u15 u16 u17 u18 u19 u20 u21 u22 u23 u24 u25 u26 u27 u28 u29 u30 u31 u32 u33 u34 u35 u36 u37 u38 u39 u40 u41 u42 u43 u44 u45 u46 u47 : Value, a' = { tmps := #[.pointer (some ⟨pb, 0, none⟩), u1, .int .i64 0, .bool false, .int .i64 (best : Int), .bool fnd, .slice A n c, .int .i64 (i : Int), u8, u9, u10, u11, u12, u13, u14, u15, u16, u17, u18, u19, u20, u21, u22, u23, u24, u25, u26, u27, u28, u29, u30, u31, u32, u33, u34, u35, u36, u37, u38, u39, u40, u41, u42, u43, u44, u45, u46, u47], defers := [] }) (fun a' _ => S.length - (intV (a'.tmps.getD 7 undef)).toNat) rfl ?_ ?_
  · intro hL
    go_wp2_with fail
    refine (Try.heldP Hp.out).mono ?_
    rintro e w1 ⟨v, L, rfl, hper, hsort, hrow, hnil, hb⟩
    obtain ⟨A, c, rfl, hlc, hc⟩ := row_cells hrow
    have HV : Hid (LoopV w w1 pb mb fr k now S A L.length c L 0 0 false) := Lib.hid ⟨Hp.out.below hb, hb, rfl, Nat.zero_le _, fun j x hj => by obtain ⟨g, e, _, h⟩ := hc j x hj; exact ⟨g, e, h⟩, hper, .inl ⟨rfl, fun f _ hm => by simp at hm⟩⟩
    clear hper hsort hrow hnil hb hc
    go_wp2_with (refine wp_label ?_; rename_i Q0 K0 hK; refine hK _ _ (hL _ _ ?_); exact ⟨A, _, c, L, 0, 0, false, HV.out, _, _, _, _, _, _, _, _, _, _, _, _, _, _, _, _, _, _, _, _, _, _, _, _, _, _, _, _, _, _, _, _, _, _, _, _, _, _, _, _, _, rfl⟩)
  · rintro a' wr ⟨A, n, c, L, best, i, fnd, hV, u1, u8, u9, u10, u11, u12, u13, u14, u15, u16, u17, u18, u19, u20, u21, u22, u23, u24, u25, u26, u27, u28, u29, u30, u31, u32, u33, u34, u35, u36, u37, u38, u39, u40, u41, u42, u43, u44, u45, u46, u47, rfl⟩
    have HV := Lib.hid hV
    have hin := hV.hi
    have hnS : n = S.length := by rw [← hV.len, hV.perm.length_eq, List.length_map]
    have hS1 := hV.pool.le
    have hS2 := hV.pool.f2
    have hn : n ≤ 256 := by omega
    clear hV
    by_cases hlt : i < n
    · obtain ⟨x, hx⟩ : ∃ x, L[i]? = some x := ⟨_, List.getElem?_eq_getElem (by rw [HV.out.len]; exact hlt)⟩
      obtain ⟨f, hf, hfx⟩ := List.mem_map.1 (HV.out.perm.mem_iff.1 (List.mem_of_getElem? hx))
      obtain ⟨g, hA, hcx⟩ := HV.out.at' i x hx
      subst hA
      have hcp := (HV.out.pool.frs f hf).c1
      have hc3 := HV.out.pool.c3
      have hap : S.Pairwise fun f g => f.a ≠ g.a := HV.out.pool.apart.imp fun h => h.1
      have e1 : ((i : Int) == n) = false := by simp; omega
      have e2 : decide ((i : Int) = n) = false := decide_eq_false (by omega)
      subst hfx
      have HX := Lib.hid hx
      have HF := Lib.hid hf
      have HAp := Lib.hid hap
      have HnS := Lib.hid hnS
      clear hx hf hap hnS hS1 hS2
      obtain ⟨P, hP⟩ : ∃ P, P = f.pins := ⟨_, rfl⟩
      rw [← hP] at hcp
      have HP := Lib.hid hP
      clear hP
      by_cases hp0 : P = 0
      · cases fnd with
        | false =>
          subst hp0
          go_upto_region 6 with fail
          refine wp_region_noPanic ?_
          refine wp_region_held_drew (S := (fun W => PoolI W pb mb fr k now S ∧ W.cell? ⟨pb, 3, none⟩ = some (.map (some mb)) ∧ W.cell? ⟨g, i, none⟩ = some (.int .i64 (f.a : Int)) ∧ W.cell? ⟨f.fb, 1, none⟩ = some (.int .i64 (0 : Int)))) (by kernel_rfl) ?_ (fun hHeld => ?_)
          · exact ⟨HV.out.pool.below (Below.refl _ _).drew, hc3, hcx, hcp⟩
          refine wpAnyH_take (i := 0) (oi := { dst := some 16, op := Op.move (Operand.tmp 0), type := 24, pos := "pool.go:89", after := #[], guard := none }) (v := ?_) rfl (by kernel_rfl) (by kernel_rfl) (by kernel_rfl) (fun _ _ _ h => h) (Or.inl ⟨by rfl, ?_⟩) (by assumption) ?_
          rotate_left
          · (intro w hSw; (try dsimp only at hSw); go_simp; try with_reducible rfl)
          try simp only [Act.put, List.setIfInBounds_toArray, List.set_cons_zero, List.set_cons_succ]
          refine wpAnyH_take (i := 1) (oi := { dst := some 17, op := Op.nilCheck (Operand.tmp 16), type := 0, pos := "pool.go:89", after := #[{ on := 0, ground := Ground.data }], guard := none }) (v := ?_) rfl (by kernel_rfl) (by kernel_rfl) (by kernel_rfl) (fun _ _ _ h => h) (Or.inl ⟨by rfl, ?_⟩) (by assumption) ?_
          rotate_left
          · (intro w hSw; (try dsimp only at hSw); go_simp; try with_reducible rfl)
          try simp only [Act.put, List.setIfInBounds_toArray, List.set_cons_zero, List.set_cons_succ]
          refine wpAnyH_take (i := 2) (oi := { dst := some 18, op := Op.fieldAddr 61 (Operand.tmp 17) 3, type := 0, pos := "pool.go:89", after := #[{ on := 1, ground := Ground.data }], guard := none }) (v := ?_) rfl (by kernel_rfl) (by kernel_rfl) (by kernel_rfl) (fun _ _ _ h => h) (Or.inl ⟨by rfl, ?_⟩) (by assumption) ?_
          rotate_left
          · (intro w hSw; (try dsimp only at hSw); go_simp; try with_reducible rfl)
          try simp only [Act.put, List.setIfInBounds_toArray, List.set_cons_zero, List.set_cons_succ]
          refine wpAnyH_take (i := 3) (oi := { dst := some 19, op := Op.load 59 (Operand.tmp 18), type := 59, pos := "pool.go:89", after := #[{ on := 2, ground := Ground.data }], guard := none }) (v := ?_) rfl (by kernel_rfl) (by kernel_rfl) (by kernel_rfl) (fun _ _ _ h => h) (Or.inl ⟨by rfl, ?_⟩) (by assumption) ?_
          rotate_left
          · (intro w hSw; (try dsimp only at hSw); go_simp; try with_reducible rfl)
          try simp only [Act.put, List.setIfInBounds_toArray, List.set_cons_zero, List.set_cons_succ]
          refine wpAnyH_take (i := 4) (oi := { dst := some 20, op := Op.move (Operand.tmp 6), type := 50, pos := "pool.go:89", after := #[], guard := none }) (v := ?_) rfl (by kernel_rfl) (by kernel_rfl) (by kernel_rfl) (fun _ _ _ h => h) (Or.inl ⟨by rfl, ?_⟩) (by assumption) ?_
          rotate_left
          · (intro w hSw; (try dsimp only at hSw); go_simp; try with_reducible rfl)
          try simp only [Act.put, List.setIfInBounds_toArray, List.set_cons_zero, List.set_cons_succ]
          refine wpAnyH_take (i := 5) (oi := { dst := some 21, op := Op.move (Operand.tmp 7), type := 3, pos := "pool.go:89", after := #[], guard := none }) (v := ?_) rfl (by kernel_rfl) (by kernel_rfl) (by kernel_rfl) (fun _ _ _ h => h) (Or.inl ⟨by rfl, ?_⟩) (by assumption) ?_
          rotate_left
          · (intro w hSw; (try dsimp only at hSw); go_simp; try with_reducible rfl)
          try simp only [Act.put, List.setIfInBounds_toArray, List.set_cons_zero, List.set_cons_succ]
          refine wpAnyH_take (i := 6) (oi := { dst := some 22, op := Op.indexAddr 50 (Operand.tmp 20) (Operand.tmp 21), type := 0, pos := "pool.go:89", after := #[{ on := 4, ground := Ground.data }, { on := 5, ground := Ground.data }], guard := none }) (v := ?_) rfl (by kernel_rfl) (by kernel_rfl) (by kernel_rfl) (fun _ _ _ h => h) (Or.inl ⟨by rfl, ?_⟩) (by assumption) ?_
          rotate_left
          · (intro w hSw; (try dsimp only at hSw); go_simp; try with_reducible rfl)
          try simp only [Act.put, List.setIfInBounds_toArray, List.set_cons_zero, List.set_cons_succ]
          refine wpAnyH_take (i := 7) (oi := { dst := some 23, op := Op.load 3 (Operand.tmp 22), type := 3, pos := "pool.go:89", after := #[{ on := 6, ground := Ground.data }], guard := none }) (v := ?_) rfl (by kernel_rfl) (by kernel_rfl) (by kernel_rfl) (fun _ _ _ h => h) (Or.inl ⟨by rfl, ?_⟩) (by assumption) ?_
          rotate_left
          · (intro w hSw; (try dsimp only at hSw); go_simp; try with_reducible rfl)
          try simp only [Act.put, List.setIfInBounds_toArray, List.set_cons_zero, List.set_cons_succ]
          refine wpAnyH_take (i := 8) (oi := { dst := some 24, op := Op.lookup 59 (Operand.tmp 19) (Operand.tmp 23) false, type := 71, pos := "pool.go:89", after := #[{ on := 3, ground := Ground.data }, { on := 7, ground := Ground.data }], guard := none }) (v := ?_) rfl (by kernel_rfl) (by kernel_rfl) (by kernel_rfl) (fun _ _ _ h => h) (Or.inl ⟨by rfl, ?_⟩) (by assumption) ?_
          rotate_left
          · (intro w hSw; (try dsimp only at hSw); have hl := look_hit hSw.1 HF.out false; go_simp; try with_reducible rfl)
          try simp only [Act.put, List.setIfInBounds_toArray, List.set_cons_zero, List.set_cons_succ]
          refine wpAnyH_take (i := 9) (oi := { dst := some 25, op := Op.nilCheck (Operand.tmp 24), type := 0, pos := "pool.go:89", after := #[{ on := 8, ground := Ground.data }], guard := none }) (v := ?_) rfl (by kernel_rfl) (by kernel_rfl) (by kernel_rfl) (fun _ _ _ h => h) (Or.inl ⟨by rfl, ?_⟩) (by assumption) ?_
          rotate_left
          · (intro w hSw; (try dsimp only at hSw); go_simp; try with_reducible rfl)
          try simp only [Act.put, List.setIfInBounds_toArray, List.set_cons_zero, List.set_cons_succ]
          refine wpAnyH_take (i := 10) (oi := { dst := some 26, op := Op.fieldAddr 76 (Operand.tmp 25) 1, type := 0, pos := "pool.go:89", after := #[{ on := 9, ground := Ground.data }], guard := none }) (v := ?_) rfl (by kernel_rfl) (by kernel_rfl) (by kernel_rfl) (fun _ _ _ h => h) (Or.inl ⟨by rfl, ?_⟩) (by assumption) ?_
          rotate_left
          · (intro w hSw; (try dsimp only at hSw); go_simp; try with_reducible rfl)
          try simp only [Act.put, List.setIfInBounds_toArray, List.set_cons_zero, List.set_cons_succ]
          refine wpAnyH_take (i := 11) (oi := { dst := some 27, op := Op.load 3 (Operand.tmp 26), type := 3, pos := "pool.go:89", after := #[{ on := 10, ground := Ground.data }], guard := none }) (v := ?_) rfl (by kernel_rfl) (by kernel_rfl) (by kernel_rfl) (fun _ _ _ h => h) (Or.inl ⟨by rfl, ?_⟩) (by assumption) ?_
          rotate_left
          · (intro w hSw; (try dsimp only at hSw); go_simp; try with_reducible rfl)
          try simp only [Act.put, List.setIfInBounds_toArray, List.set_cons_zero, List.set_cons_succ]
          refine wpAnyH_take (i := 12) (oi := { dst := some 28, op := Op.binOp BinOp.eql 3 (Operand.tmp 27) (Operand.const (Value.int IntKind.i64 0)) 3, type := 4, pos := "pool.go:89", after := #[{ on := 11, ground := Ground.data }], guard := none }) (v := ?_) rfl (by kernel_rfl) (by kernel_rfl) (by kernel_rfl) (fun _ _ _ h => h) (Or.inl ⟨by rfl, ?_⟩) (by assumption) ?_
          rotate_left
          · (intro w hSw; (try dsimp only at hSw); go_simp; try with_reducible rfl)
          try simp only [Act.put, List.setIfInBounds_toArray, List.set_cons_zero, List.set_cons_succ]
          refine wpAnyH_take (i := 13) (oi := { dst := some 29, op := Op.move (Operand.tmp 28), type := 4, pos := "pool.go:89", after := #[{ on := 12, ground := Ground.data }], guard := none }) (v := ?_) rfl (by kernel_rfl) (by kernel_rfl) (by kernel_rfl) (fun _ _ _ h => h) (Or.inl ⟨by rfl, ?_⟩) (by assumption) ?_
          rotate_left
          · (intro w hSw; (try dsimp only at hSw); go_simp; try with_reducible rfl)
          try simp only [Act.put, List.setIfInBounds_toArray, List.set_cons_zero, List.set_cons_succ]
          refine wpAnyH_take (i := 14) (oi := { dst := some 30, op := Op.move (Operand.tmp 5), type := 4, pos := "pool.go:89", after := #[{ on := 13, ground := Ground.guard }], guard := some (13, true) }) (v := ?_) rfl (by kernel_rfl) (by kernel_rfl) (by kernel_rfl) (fun _ _ _ h => h) (Or.inl ⟨by rfl, ?_⟩) (by assumption) ?_
          rotate_left
          · (intro w hSw; (try dsimp only at hSw); go_simp; try with_reducible rfl)
          try simp only [Act.put, List.setIfInBounds_toArray, List.set_cons_zero, List.set_cons_succ]
          refine wpAnyH_take (i := 15) (oi := { dst := some 31, op := Op.unOp UnOp.not 4 (Operand.tmp 30), type := 4, pos := "pool.go:89", after := #[{ on := 14, ground := Ground.data }, { on := 13, ground := Ground.guard }], guard := some (13, true) }) (v := ?_) rfl (by kernel_rfl) (by kernel_rfl) (by kernel_rfl) (fun _ _ _ h => h) (Or.inl ⟨by rfl, ?_⟩) (by assumption) ?_
          rotate_left
          · (intro w hSw; (try dsimp only at hSw); go_simp; try with_reducible rfl)
          try simp only [Act.put, List.setIfInBounds_toArray, List.set_cons_zero, List.set_cons_succ]
          refine wpAnyH_take (i := 16) (oi := { dst := some 32, op := Op.move (Operand.tmp 31), type := 4, pos := "pool.go:89", after := #[{ on := 15, ground := Ground.data }, { on := 13, ground := Ground.chain }, { on := 13, ground := Ground.guard }], guard := some (13, true) }) (v := ?_) rfl (by kernel_rfl) (by kernel_rfl) (by kernel_rfl) (fun _ _ _ h => h) (Or.inl ⟨by rfl, ?_⟩) (by assumption) ?_
          rotate_left
          · (intro w hSw; (try dsimp only at hSw); go_simp; try with_reducible rfl)
          try simp only [Act.put, List.setIfInBounds_toArray, List.set_cons_zero, List.set_cons_succ]
          refine wpAnyH_take (i := 17) (oi := { dst := some 33, op := Op.move (Operand.tmp 0), type := 24, pos := "pool.go:89", after := #[{ on := 16, ground := Ground.guard }], guard := some (16, false) }) (v := undef) rfl (by kernel_rfl) (by kernel_rfl) (by kernel_rfl) (fun _ _ _ h => h) (Or.inr ⟨by rfl, rfl⟩) (by assumption) ?_
          try simp only [Act.put, List.setIfInBounds_toArray, List.set_cons_zero, List.set_cons_succ]
          refine wpAnyH_take (i := 18) (oi := { dst := some 34, op := Op.move (Operand.tmp 6), type := 50, pos := "pool.go:89", after := #[{ on := 16, ground := Ground.guard }], guard := some (16, false) }) (v := undef) rfl (by kernel_rfl) (by kernel_rfl) (by kernel_rfl) (fun _ _ _ h => h) (Or.inr ⟨by rfl, rfl⟩) (by assumption) ?_
          try simp only [Act.put, List.setIfInBounds_toArray, List.set_cons_zero, List.set_cons_succ]
          refine wpAnyH_take (i := 19) (oi := { dst := some 35, op := Op.move (Operand.tmp 7), type := 3, pos := "pool.go:89", after := #[{ on := 16, ground := Ground.guard }], guard := some (16, false) }) (v := undef) rfl (by kernel_rfl) (by kernel_rfl) (by kernel_rfl) (fun _ _ _ h => h) (Or.inr ⟨by rfl, rfl⟩) (by assumption) ?_
          try simp only [Act.put, List.setIfInBounds_toArray, List.set_cons_zero, List.set_cons_succ]
          refine wpAnyH_take (i := 20) (oi := { dst := some 36, op := Op.indexAddr 50 (Operand.tmp 34) (Operand.tmp 35), type := 0, pos := "pool.go:89", after := #[{ on := 18, ground := Ground.data }, { on := 19, ground := Ground.data }, { on := 16, ground := Ground.guard }], guard := some (16, false) }) (v := undef) rfl (by kernel_rfl) (by kernel_rfl) (by kernel_rfl) (fun _ _ _ h => h) (Or.inr ⟨by rfl, rfl⟩) (by assumption) ?_
          try simp only [Act.put, List.setIfInBounds_toArray, List.set_cons_zero, List.set_cons_succ]
          refine wpAnyH_take (i := 21) (oi := { dst := some 37, op := Op.load 3 (Operand.tmp 36), type := 3, pos := "pool.go:89", after := #[{ on := 20, ground := Ground.data }, { on := 16, ground := Ground.guard }], guard := some (16, false) }) (v := undef) rfl (by kernel_rfl) (by kernel_rfl) (by kernel_rfl) (fun _ _ _ h => h) (Or.inr ⟨by rfl, rfl⟩) (by assumption) ?_
          try simp only [Act.put, List.setIfInBounds_toArray, List.set_cons_zero, List.set_cons_succ]
          refine wpAnyH_take (i := 22) (oi := { dst := some 38, op := Op.move (Operand.tmp 4), type := 3, pos := "pool.go:89", after := #[{ on := 16, ground := Ground.guard }], guard := some (16, false) }) (v := undef) rfl (by kernel_rfl) (by kernel_rfl) (by kernel_rfl) (fun _ _ _ h => h) (Or.inr ⟨by rfl, rfl⟩) (by assumption) ?_
          try simp only [Act.put, List.setIfInBounds_toArray, List.set_cons_zero, List.set_cons_succ]
          refine wpAnyH_take (i := 23) (oi := { dst := some 39, op := Op.call { callee := Callee.value (Operand.func 66), args := #[Operand.tmp 33, Operand.tmp 37, Operand.tmp 38], argTypes := #[24, 3, 3] }, type := 4, pos := "pool.go:89", after := #[{ on := 17, ground := Ground.data }, { on := 21, ground := Ground.data }, { on := 22, ground := Ground.data }, { on := 16, ground := Ground.chain }, { on := 16, ground := Ground.guard }], guard := some (16, false) }) (v := undef) rfl (by kernel_rfl) (by kernel_rfl) (by kernel_rfl) (fun _ _ _ h => h) (Or.inr ⟨by rfl, rfl⟩) (by assumption) ?_
          try simp only [Act.put, List.setIfInBounds_toArray, List.set_cons_zero, List.set_cons_succ]
          refine wpAnyH_take (i := 24) (oi := { dst := some 40, op := Op.pick (Operand.tmp 32) (Operand.const (Value.bool true)) (Operand.tmp 39), type := 4, pos := "pool.go:89", after := #[{ on := 16, ground := Ground.data }, { on := 23, ground := Ground.data }, { on := 13, ground := Ground.guard }], guard := some (13, true) }) (v := ?_) rfl (by kernel_rfl) (by kernel_rfl) (by kernel_rfl) (fun _ _ _ h => h) (Or.inl ⟨by rfl, ?_⟩) (by assumption) ?_
          rotate_left
          · (intro w hSw; (try dsimp only at hSw); go_simp; try with_reducible rfl)
          try simp only [Act.put, List.setIfInBounds_toArray, List.set_cons_zero, List.set_cons_succ]
          refine wpAnyH_take (i := 25) (oi := { dst := some 41, op := Op.pick (Operand.tmp 29) (Operand.tmp 40) (Operand.const (Value.bool false)), type := 4, pos := "pool.go:89", after := #[{ on := 13, ground := Ground.data }, { on := 24, ground := Ground.data }], guard := none }) (v := ?_) rfl (by kernel_rfl) (by kernel_rfl) (by kernel_rfl) (fun _ _ _ h => h) (Or.inl ⟨by rfl, ?_⟩) (by assumption) ?_
          rotate_left
          · (intro w hSw; (try dsimp only at hSw); go_simp; try with_reducible rfl)
          try simp only [Act.put, List.setIfInBounds_toArray, List.set_cons_zero, List.set_cons_succ]
          refine wpAnyH_done (by kernel_rfl) ?_ _
          refine NoPanic.normal ?_
          obtain ⟨hp1, -, hcx1, -⟩ := hHeld
          have hb0 : Below w.heap.size w wr.drew := HV.out.bel.drew
          have hat1 := fun j x hj => HV.out.at' j x hj
          have HP1 := Lib.hid hp1
          generalize hw0 : wr.drew = w0 at hp1 hb0 hcx1 ⊢
          have hat2 : ∀ (j x : Nat), L[j]? = some x → ∃ g', some (⟨g, 0, none⟩ : Addr) = some ⟨g', 0, none⟩ ∧ w0.cell? ⟨g', j, none⟩ = some (.int .i64 (x : Int)) := by rw [← hw0]; exact hat1
          have HA2 := Lib.hid hat2
          have HB0 := Lib.hid hb0
          have HP2 := Lib.hid hp1
          clear hat1 hp1 hb0 hw0 HP1 hat2 hc3 hcp
          go_wp2_with fail
          go_step3
          exact ⟨rfl, ⟨_, n, c, L, f.a, i + 1, true, ⟨HP2.out, HB0.out, HV.out.len, by omega, HA2.out, HV.out.perm, HV.out.vic.turn HAp.out HF.out HX.out HP.out.symm (fun h => by cases h)⟩, _, _, _, _, _, _, _, _, _, _, _, _, _, _, _, _, _, _, _, _, _, _, _, _, _, _, _, _, _, _, _, _, _, _, _, _, _, _, _, _, _, rfl⟩, by have := HnS.out; simp [intV]; omega⟩
        | true =>
          subst hp0
          obtain ⟨g2, hgS, eg, pg⟩ : ∃ g2 ∈ S, best = g2.a ∧ g2.pins = 0 := by
            rcases HV.out.vic with ⟨e, _⟩ | ⟨_, g2, h1, h2, h3, _⟩
            · cases e
            · exact ⟨g2, h1, h2, h3⟩
          subst eg
          obtain ⟨E, hE⟩ : ∃ E, elderB k f g2 = E := ⟨_, rfl⟩
          cases E with
          | false =>
            go_upto_region 6 with fail
            refine wp_region_noPanic ?_
            refine wp_region_held_drew (S := (fun W => PoolI W pb mb fr k now S ∧ W.cell? ⟨pb, 3, none⟩ = some (.map (some mb)) ∧ W.cell? ⟨g, i, none⟩ = some (.int .i64 (f.a : Int)) ∧ W.cell? ⟨f.fb, 1, none⟩ = some (.int .i64 (0 : Int)))) (by kernel_rfl) ?_ (fun hHeld => ?_)
            · exact ⟨HV.out.pool.below (Below.refl _ _).drew, hc3, hcx, hcp⟩
            refine wpAnyH_take (i := 0) (oi := { dst := some 16, op := Op.move (Operand.tmp 0), type := 24, pos := "pool.go:89", after := #[], guard := none }) (v := ?_) rfl (by kernel_rfl) (by kernel_rfl) (by kernel_rfl) (fun _ _ _ h => h) (Or.inl ⟨by rfl, ?_⟩) (by assumption) ?_
            rotate_left
            · (intro w hSw; (try dsimp only at hSw); go_simp; try with_reducible rfl)
            try simp only [Act.put, List.setIfInBounds_toArray, List.set_cons_zero, List.set_cons_succ]
            refine wpAnyH_take (i := 1) (oi := { dst := some 17, op := Op.nilCheck (Operand.tmp 16), type := 0, pos := "pool.go:89", after := #[{ on := 0, ground := Ground.data }], guard := none }) (v := ?_) rfl (by kernel_rfl) (by kernel_rfl) (by kernel_rfl) (fun _ _ _ h => h) (Or.inl ⟨by rfl, ?_⟩) (by assumption) ?_
            rotate_left
            · (intro w hSw; (try dsimp only at hSw); go_simp; try with_reducible rfl)
            try simp only [Act.put, List.setIfInBounds_toArray, List.set_cons_zero, List.set_cons_succ]
            refine wpAnyH_take (i := 2) (oi := { dst := some 18, op := Op.fieldAddr 61 (Operand.tmp 17) 3, type := 0, pos := "pool.go:89", after := #[{ on := 1, ground := Ground.data }], guard := none }) (v := ?_) rfl (by kernel_rfl) (by kernel_rfl) (by kernel_rfl) (fun _ _ _ h => h) (Or.inl ⟨by rfl, ?_⟩) (by assumption) ?_
            rotate_left
            · (intro w hSw; (try dsimp only at hSw); go_simp; try with_reducible rfl)
            try simp only [Act.put, List.setIfInBounds_toArray, List.set_cons_zero, List.set_cons_succ]
            refine wpAnyH_take (i := 3) (oi := { dst := some 19, op := Op.load 59 (Operand.tmp 18), type := 59, pos := "pool.go:89", after := #[{ on := 2, ground := Ground.data }], guard := none }) (v := ?_) rfl (by kernel_rfl) (by kernel_rfl) (by kernel_rfl) (fun _ _ _ h => h) (Or.inl ⟨by rfl, ?_⟩) (by assumption) ?_
            rotate_left
            · (intro w hSw; (try dsimp only at hSw); go_simp; try with_reducible rfl)
            try simp only [Act.put, List.setIfInBounds_toArray, List.set_cons_zero, List.set_cons_succ]
            refine wpAnyH_take (i := 4) (oi := { dst := some 20, op := Op.move (Operand.tmp 6), type := 50, pos := "pool.go:89", after := #[], guard := none }) (v := ?_) rfl (by kernel_rfl) (by kernel_rfl) (by kernel_rfl) (fun _ _ _ h => h) (Or.inl ⟨by rfl, ?_⟩) (by assumption) ?_
            rotate_left
            · (intro w hSw; (try dsimp only at hSw); go_simp; try with_reducible rfl)
            try simp only [Act.put, List.setIfInBounds_toArray, List.set_cons_zero, List.set_cons_succ]
            refine wpAnyH_take (i := 5) (oi := { dst := some 21, op := Op.move (Operand.tmp 7), type := 3, pos := "pool.go:89", after := #[], guard := none }) (v := ?_) rfl (by kernel_rfl) (by kernel_rfl) (by kernel_rfl) (fun _ _ _ h => h) (Or.inl ⟨by rfl, ?_⟩) (by assumption) ?_
            rotate_left
            · (intro w hSw; (try dsimp only at hSw); go_simp; try with_reducible rfl)
            try simp only [Act.put, List.setIfInBounds_toArray, List.set_cons_zero, List.set_cons_succ]
            refine wpAnyH_take (i := 6) (oi := { dst := some 22, op := Op.indexAddr 50 (Operand.tmp 20) (Operand.tmp 21), type := 0, pos := "pool.go:89", after := #[{ on := 4, ground := Ground.data }, { on := 5, ground := Ground.data }], guard := none }) (v := ?_) rfl (by kernel_rfl) (by kernel_rfl) (by kernel_rfl) (fun _ _ _ h => h) (Or.inl ⟨by rfl, ?_⟩) (by assumption) ?_
            rotate_left
            · (intro w hSw; (try dsimp only at hSw); go_simp; try with_reducible rfl)
            try simp only [Act.put, List.setIfInBounds_toArray, List.set_cons_zero, List.set_cons_succ]
            refine wpAnyH_take (i := 7) (oi := { dst := some 23, op := Op.load 3 (Operand.tmp 22), type := 3, pos := "pool.go:89", after := #[{ on := 6, ground := Ground.data }], guard := none }) (v := ?_) rfl (by kernel_rfl) (by kernel_rfl) (by kernel_rfl) (fun _ _ _ h => h) (Or.inl ⟨by rfl, ?_⟩) (by assumption) ?_
            rotate_left
            · (intro w hSw; (try dsimp only at hSw); go_simp; try with_reducible rfl)
            try simp only [Act.put, List.setIfInBounds_toArray, List.set_cons_zero, List.set_cons_succ]
            refine wpAnyH_take (i := 8) (oi := { dst := some 24, op := Op.lookup 59 (Operand.tmp 19) (Operand.tmp 23) false, type := 71, pos := "pool.go:89", after := #[{ on := 3, ground := Ground.data }, { on := 7, ground := Ground.data }], guard := none }) (v := ?_) rfl (by kernel_rfl) (by kernel_rfl) (by kernel_rfl) (fun _ _ _ h => h) (Or.inl ⟨by rfl, ?_⟩) (by assumption) ?_
            rotate_left
            · (intro w hSw; (try dsimp only at hSw); have hl := look_hit hSw.1 HF.out false; go_simp; try with_reducible rfl)
            try simp only [Act.put, List.setIfInBounds_toArray, List.set_cons_zero, List.set_cons_succ]
            refine wpAnyH_take (i := 9) (oi := { dst := some 25, op := Op.nilCheck (Operand.tmp 24), type := 0, pos := "pool.go:89", after := #[{ on := 8, ground := Ground.data }], guard := none }) (v := ?_) rfl (by kernel_rfl) (by kernel_rfl) (by kernel_rfl) (fun _ _ _ h => h) (Or.inl ⟨by rfl, ?_⟩) (by assumption) ?_
            rotate_left
            · (intro w hSw; (try dsimp only at hSw); go_simp; try with_reducible rfl)
            try simp only [Act.put, List.setIfInBounds_toArray, List.set_cons_zero, List.set_cons_succ]
            refine wpAnyH_take (i := 10) (oi := { dst := some 26, op := Op.fieldAddr 76 (Operand.tmp 25) 1, type := 0, pos := "pool.go:89", after := #[{ on := 9, ground := Ground.data }], guard := none }) (v := ?_) rfl (by kernel_rfl) (by kernel_rfl) (by kernel_rfl) (fun _ _ _ h => h) (Or.inl ⟨by rfl, ?_⟩) (by assumption) ?_
            rotate_left
            · (intro w hSw; (try dsimp only at hSw); go_simp; try with_reducible rfl)
            try simp only [Act.put, List.setIfInBounds_toArray, List.set_cons_zero, List.set_cons_succ]
            refine wpAnyH_take (i := 11) (oi := { dst := some 27, op := Op.load 3 (Operand.tmp 26), type := 3, pos := "pool.go:89", after := #[{ on := 10, ground := Ground.data }], guard := none }) (v := ?_) rfl (by kernel_rfl) (by kernel_rfl) (by kernel_rfl) (fun _ _ _ h => h) (Or.inl ⟨by rfl, ?_⟩) (by assumption) ?_
            rotate_left
            · (intro w hSw; (try dsimp only at hSw); go_simp; try with_reducible rfl)
            try simp only [Act.put, List.setIfInBounds_toArray, List.set_cons_zero, List.set_cons_succ]
            refine wpAnyH_take (i := 12) (oi := { dst := some 28, op := Op.binOp BinOp.eql 3 (Operand.tmp 27) (Operand.const (Value.int IntKind.i64 0)) 3, type := 4, pos := "pool.go:89", after := #[{ on := 11, ground := Ground.data }], guard := none }) (v := ?_) rfl (by kernel_rfl) (by kernel_rfl) (by kernel_rfl) (fun _ _ _ h => h) (Or.inl ⟨by rfl, ?_⟩) (by assumption) ?_
            rotate_left
            · (intro w hSw; (try dsimp only at hSw); go_simp; try with_reducible rfl)
            try simp only [Act.put, List.setIfInBounds_toArray, List.set_cons_zero, List.set_cons_succ]
            refine wpAnyH_take (i := 13) (oi := { dst := some 29, op := Op.move (Operand.tmp 28), type := 4, pos := "pool.go:89", after := #[{ on := 12, ground := Ground.data }], guard := none }) (v := ?_) rfl (by kernel_rfl) (by kernel_rfl) (by kernel_rfl) (fun _ _ _ h => h) (Or.inl ⟨by rfl, ?_⟩) (by assumption) ?_
            rotate_left
            · (intro w hSw; (try dsimp only at hSw); go_simp; try with_reducible rfl)
            try simp only [Act.put, List.setIfInBounds_toArray, List.set_cons_zero, List.set_cons_succ]
            refine wpAnyH_take (i := 14) (oi := { dst := some 30, op := Op.move (Operand.tmp 5), type := 4, pos := "pool.go:89", after := #[{ on := 13, ground := Ground.guard }], guard := some (13, true) }) (v := ?_) rfl (by kernel_rfl) (by kernel_rfl) (by kernel_rfl) (fun _ _ _ h => h) (Or.inl ⟨by rfl, ?_⟩) (by assumption) ?_
            rotate_left
            · (intro w hSw; (try dsimp only at hSw); go_simp; try with_reducible rfl)
            try simp only [Act.put, List.setIfInBounds_toArray, List.set_cons_zero, List.set_cons_succ]
            refine wpAnyH_take (i := 15) (oi := { dst := some 31, op := Op.unOp UnOp.not 4 (Operand.tmp 30), type := 4, pos := "pool.go:89", after := #[{ on := 14, ground := Ground.data }, { on := 13, ground := Ground.guard }], guard := some (13, true) }) (v := ?_) rfl (by kernel_rfl) (by kernel_rfl) (by kernel_rfl) (fun _ _ _ h => h) (Or.inl ⟨by rfl, ?_⟩) (by assumption) ?_
            rotate_left
            · (intro w hSw; (try dsimp only at hSw); go_simp; try with_reducible rfl)
            try simp only [Act.put, List.setIfInBounds_toArray, List.set_cons_zero, List.set_cons_succ]
            refine wpAnyH_take (i := 16) (oi := { dst := some 32, op := Op.move (Operand.tmp 31), type := 4, pos := "pool.go:89", after := #[{ on := 15, ground := Ground.data }, { on := 13, ground := Ground.chain }, { on := 13, ground := Ground.guard }], guard := some (13, true) }) (v := ?_) rfl (by kernel_rfl) (by kernel_rfl) (by kernel_rfl) (fun _ _ _ h => h) (Or.inl ⟨by rfl, ?_⟩) (by assumption) ?_
            rotate_left
            · (intro w hSw; (try dsimp only at hSw); go_simp; try with_reducible rfl)
            try simp only [Act.put, List.setIfInBounds_toArray, List.set_cons_zero, List.set_cons_succ]
            refine wpAnyH_take (i := 17) (oi := { dst := some 33, op := Op.move (Operand.tmp 0), type := 24, pos := "pool.go:89", after := #[{ on := 16, ground := Ground.guard }], guard := some (16, false) }) (v := ?_) rfl (by kernel_rfl) (by kernel_rfl) (by kernel_rfl) (fun _ _ _ h => h) (Or.inl ⟨by rfl, ?_⟩) (by assumption) ?_
            rotate_left
            · (intro w hSw; (try dsimp only at hSw); go_simp; try with_reducible rfl)
            try simp only [Act.put, List.setIfInBounds_toArray, List.set_cons_zero, List.set_cons_succ]
            refine wpAnyH_take (i := 18) (oi := { dst := some 34, op := Op.move (Operand.tmp 6), type := 50, pos := "pool.go:89", after := #[{ on := 16, ground := Ground.guard }], guard := some (16, false) }) (v := ?_) rfl (by kernel_rfl) (by kernel_rfl) (by kernel_rfl) (fun _ _ _ h => h) (Or.inl ⟨by rfl, ?_⟩) (by assumption) ?_
            rotate_left
            · (intro w hSw; (try dsimp only at hSw); go_simp; try with_reducible rfl)
            try simp only [Act.put, List.setIfInBounds_toArray, List.set_cons_zero, List.set_cons_succ]
            refine wpAnyH_take (i := 19) (oi := { dst := some 35, op := Op.move (Operand.tmp 7), type := 3, pos := "pool.go:89", after := #[{ on := 16, ground := Ground.guard }], guard := some (16, false) }) (v := ?_) rfl (by kernel_rfl) (by kernel_rfl) (by kernel_rfl) (fun _ _ _ h => h) (Or.inl ⟨by rfl, ?_⟩) (by assumption) ?_
            rotate_left
            · (intro w hSw; (try dsimp only at hSw); go_simp; try with_reducible rfl)
            try simp only [Act.put, List.setIfInBounds_toArray, List.set_cons_zero, List.set_cons_succ]
            refine wpAnyH_take (i := 20) (oi := { dst := some 36, op := Op.indexAddr 50 (Operand.tmp 34) (Operand.tmp 35), type := 0, pos := "pool.go:89", after := #[{ on := 18, ground := Ground.data }, { on := 19, ground := Ground.data }, { on := 16, ground := Ground.guard }], guard := some (16, false) }) (v := ?_) rfl (by kernel_rfl) (by kernel_rfl) (by kernel_rfl) (fun _ _ _ h => h) (Or.inl ⟨by rfl, ?_⟩) (by assumption) ?_
            rotate_left
            · (intro w hSw; (try dsimp only at hSw); go_simp; try with_reducible rfl)
            try simp only [Act.put, List.setIfInBounds_toArray, List.set_cons_zero, List.set_cons_succ]
            refine wpAnyH_take (i := 21) (oi := { dst := some 37, op := Op.load 3 (Operand.tmp 36), type := 3, pos := "pool.go:89", after := #[{ on := 20, ground := Ground.data }, { on := 16, ground := Ground.guard }], guard := some (16, false) }) (v := ?_) rfl (by kernel_rfl) (by kernel_rfl) (by kernel_rfl) (fun _ _ _ h => h) (Or.inl ⟨by rfl, ?_⟩) (by assumption) ?_
            rotate_left
            · (intro w hSw; (try dsimp only at hSw); go_simp; try with_reducible rfl)
            try simp only [Act.put, List.setIfInBounds_toArray, List.set_cons_zero, List.set_cons_succ]
            refine wpAnyH_take (i := 22) (oi := { dst := some 38, op := Op.move (Operand.tmp 4), type := 3, pos := "pool.go:89", after := #[{ on := 16, ground := Ground.guard }], guard := some (16, false) }) (v := ?_) rfl (by kernel_rfl) (by kernel_rfl) (by kernel_rfl) (fun _ _ _ h => h) (Or.inl ⟨by rfl, ?_⟩) (by assumption) ?_
            rotate_left
            · (intro w hSw; (try dsimp only at hSw); go_simp; try with_reducible rfl)
            try simp only [Act.put, List.setIfInBounds_toArray, List.set_cons_zero, List.set_cons_succ]
            refine wpAnyH_ready (rs := [23]) (by kernel_rfl) (by simp) ?_
            refine AllReadyH.cons (o := { dst := some 39, op := Op.call { callee := Callee.value (Operand.func 66), args := #[Operand.tmp 33, Operand.tmp 37, Operand.tmp 38], argTypes := #[24, 3, 3] }, type := 4, pos := "pool.go:89", after := #[{ on := 17, ground := Ground.data }, { on := 21, ground := Ground.data }, { on := 22, ground := Ground.data }, { on := 16, ground := Ground.chain }, { on := 16, ground := Ground.guard }], guard := some (16, false) }) rfl (fun K hK => ?_) AllReadyH.nil
            go_simp
            refine (Try.elder hHeld.1 HF.out hgS (H0.out f HF.out) (H0.out _ hgS)).mono ?_
            rintro e w2 ⟨rfl, hb2⟩
            rw [hE]
            have hb3 : Below w.heap.size w w2 := HV.out.bel.trans ((Below.refl _ wr).drew.trans (hb2.mono (Nat.le_refl _)) |>.mono HV.out.bel.size)
            have HA2 : Hid (∀ (j x : Nat), L[j]? = some x → ∃ g', some (⟨g, 0, none⟩ : Addr) = some ⟨g', 0, none⟩ ∧ w2.cell? ⟨g', j, none⟩ = some (.int .i64 (x : Int))) := Lib.hid (fun j x hj => by obtain ⟨g1, h1, h2⟩ := HV.out.at' j x hj; exact ⟨g1, h1, cellB (w := wr.drew) h2 hb2⟩)
            have HB0 := Lib.hid hb3
            have HP2 := Lib.hid (PoolI.below hHeld.1 hb2)
            clear hb3
            refine hK.out _ _ ?_ (fun hHeld => ?_)
            · exact ⟨HP2.out, cellB hHeld.2.1 hb2, cellB hHeld.2.2.1 hb2, cellB hHeld.2.2.2 hb2⟩
            clear hK K
            try simp only [Act.put, List.setIfInBounds_toArray, List.set_cons_zero, List.set_cons_succ]
            refine wpAnyH_take (i := 24) (oi := { dst := some 40, op := Op.pick (Operand.tmp 32) (Operand.const (Value.bool true)) (Operand.tmp 39), type := 4, pos := "pool.go:89", after := #[{ on := 16, ground := Ground.data }, { on := 23, ground := Ground.data }, { on := 13, ground := Ground.guard }], guard := some (13, true) }) (v := ?_) rfl (by kernel_rfl) (by kernel_rfl) (by kernel_rfl) (fun _ _ _ h => h) (Or.inl ⟨by rfl, ?_⟩) (by assumption) ?_
            rotate_left
            · (intro w hSw; (try dsimp only at hSw); go_simp; try with_reducible rfl)
            try simp only [Act.put, List.setIfInBounds_toArray, List.set_cons_zero, List.set_cons_succ]
            refine wpAnyH_take (i := 25) (oi := { dst := some 41, op := Op.pick (Operand.tmp 29) (Operand.tmp 40) (Operand.const (Value.bool false)), type := 4, pos := "pool.go:89", after := #[{ on := 13, ground := Ground.data }, { on := 24, ground := Ground.data }], guard := none }) (v := ?_) rfl (by kernel_rfl) (by kernel_rfl) (by kernel_rfl) (fun _ _ _ h => h) (Or.inl ⟨by rfl, ?_⟩) (by assumption) ?_
            rotate_left
            · (intro w hSw; (try dsimp only at hSw); go_simp; try with_reducible rfl)
            try simp only [Act.put, List.setIfInBounds_toArray, List.set_cons_zero, List.set_cons_succ]
            refine wpAnyH_done (by kernel_rfl) ?_ _
            refine NoPanic.normal ?_
            have hcx1 := hHeld.2.2.1
            clear hb2 hHeld hcx hcp hc3
            go_wp2_with fail
            go_step3
            exact ⟨rfl, ⟨_, n, c, L, g2.a, i + 1, true, ⟨HP2.out, HB0.out, HV.out.len, by omega, HA2.out, HV.out.perm, HV.out.vic.more HAp.out HF.out HX.out (fun _ => ⟨rfl, fun g3 h3 e3 => by rw [← apart_eq HAp.out hgS h3 e3]; exact hE⟩)⟩, _, _, _, _, _, _, _, _, _, _, _, _, _, _, _, _, _, _, _, _, _, _, _, _, _, _, _, _, _, _, _, _, _, _, _, _, _, _, _, _, _, rfl⟩, by have := HnS.out; simp [intV]; omega⟩
          | true =>
            go_upto_region 6 with fail
            refine wp_region_noPanic ?_
            refine wp_region_held_drew (S := (fun W => PoolI W pb mb fr k now S ∧ W.cell? ⟨pb, 3, none⟩ = some (.map (some mb)) ∧ W.cell? ⟨g, i, none⟩ = some (.int .i64 (f.a : Int)) ∧ W.cell? ⟨f.fb, 1, none⟩ = some (.int .i64 (0 : Int)))) (by kernel_rfl) ?_ (fun hHeld => ?_)
            · exact ⟨HV.out.pool.below (Below.refl _ _).drew, hc3, hcx, hcp⟩
            refine wpAnyH_take (i := 0) (oi := { dst := some 16, op := Op.move (Operand.tmp 0), type := 24, pos := "pool.go:89", after := #[], guard := none }) (v := ?_) rfl (by kernel_rfl) (by kernel_rfl) (by kernel_rfl) (fun _ _ _ h => h) (Or.inl ⟨by rfl, ?_⟩) (by assumption) ?_
            rotate_left
            · (intro w hSw; (try dsimp only at hSw); go_simp; try with_reducible rfl)
            try simp only [Act.put, List.setIfInBounds_toArray, List.set_cons_zero, List.set_cons_succ]
            refine wpAnyH_take (i := 1) (oi := { dst := some 17, op := Op.nilCheck (Operand.tmp 16), type := 0, pos := "pool.go:89", after := #[{ on := 0, ground := Ground.data }], guard := none }) (v := ?_) rfl (by kernel_rfl) (by kernel_rfl) (by kernel_rfl) (fun _ _ _ h => h) (Or.inl ⟨by rfl, ?_⟩) (by assumption) ?_
            rotate_left
            · (intro w hSw; (try dsimp only at hSw); go_simp; try with_reducible rfl)
            try simp only [Act.put, List.setIfInBounds_toArray, List.set_cons_zero, List.set_cons_succ]
            refine wpAnyH_take (i := 2) (oi := { dst := some 18, op := Op.fieldAddr 61 (Operand.tmp 17) 3, type := 0, pos := "pool.go:89", after := #[{ on := 1, ground := Ground.data }], guard := none }) (v := ?_) rfl (by kernel_rfl) (by kernel_rfl) (by kernel_rfl) (fun _ _ _ h => h) (Or.inl ⟨by rfl, ?_⟩) (by assumption) ?_
            rotate_left
            · (intro w hSw; (try dsimp only at hSw); go_simp; try with_reducible rfl)
            try simp only [Act.put, List.setIfInBounds_toArray, List.set_cons_zero, List.set_cons_succ]
            refine wpAnyH_take (i := 3) (oi := { dst := some 19, op := Op.load 59 (Operand.tmp 18), type := 59, pos := "pool.go:89", after := #[{ on := 2, ground := Ground.data }], guard := none }) (v := ?_) rfl (by kernel_rfl) (by kernel_rfl) (by kernel_rfl) (fun _ _ _ h => h) (Or.inl ⟨by rfl, ?_⟩) (by assumption) ?_
            rotate_left
            · (intro w hSw; (try dsimp only at hSw); go_simp; try with_reducible rfl)
            try simp only [Act.put, List.setIfInBounds_toArray, List.set_cons_zero, List.set_cons_succ]
            refine wpAnyH_take (i := 4) (oi := { dst := some 20, op := Op.move (Operand.tmp 6), type := 50, pos := "pool.go:89", after := #[], guard := none }) (v := ?_) rfl (by kernel_rfl) (by kernel_rfl) (by kernel_rfl) (fun _ _ _ h => h) (Or.inl ⟨by rfl, ?_⟩) (by assumption) ?_
            rotate_left
            · (intro w hSw; (try dsimp only at hSw); go_simp; try with_reducible rfl)
            try simp only [Act.put, List.setIfInBounds_toArray, List.set_cons_zero, List.set_cons_succ]
            refine wpAnyH_take (i := 5) (oi := { dst := some 21, op := Op.move (Operand.tmp 7), type := 3, pos := "pool.go:89", after := #[], guard := none }) (v := ?_) rfl (by kernel_rfl) (by kernel_rfl) (by kernel_rfl) (fun _ _ _ h => h) (Or.inl ⟨by rfl, ?_⟩) (by assumption) ?_
            rotate_left
            · (intro w hSw; (try dsimp only at hSw); go_simp; try with_reducible rfl)
            try simp only [Act.put, List.setIfInBounds_toArray, List.set_cons_zero, List.set_cons_succ]
            refine wpAnyH_take (i := 6) (oi := { dst := some 22, op := Op.indexAddr 50 (Operand.tmp 20) (Operand.tmp 21), type := 0, pos := "pool.go:89", after := #[{ on := 4, ground := Ground.data }, { on := 5, ground := Ground.data }], guard := none }) (v := ?_) rfl (by kernel_rfl) (by kernel_rfl) (by kernel_rfl) (fun _ _ _ h => h) (Or.inl ⟨by rfl, ?_⟩) (by assumption) ?_
            rotate_left
            · (intro w hSw; (try dsimp only at hSw); go_simp; try with_reducible rfl)
            try simp only [Act.put, List.setIfInBounds_toArray, List.set_cons_zero, List.set_cons_succ]
            refine wpAnyH_take (i := 7) (oi := { dst := some 23, op := Op.load 3 (Operand.tmp 22), type := 3, pos := "pool.go:89", after := #[{ on := 6, ground := Ground.data }], guard := none }) (v := ?_) rfl (by kernel_rfl) (by kernel_rfl) (by kernel_rfl) (fun _ _ _ h => h) (Or.inl ⟨by rfl, ?_⟩) (by assumption) ?_
            rotate_left
            · (intro w hSw; (try dsimp only at hSw); go_simp; try with_reducible rfl)
            try simp only [Act.put, List.setIfInBounds_toArray, List.set_cons_zero, List.set_cons_succ]
            refine wpAnyH_take (i := 8) (oi := { dst := some 24, op := Op.lookup 59 (Operand.tmp 19) (Operand.tmp 23) false, type := 71, pos := "pool.go:89", after := #[{ on := 3, ground := Ground.data }, { on := 7, ground := Ground.data }], guard := none }) (v := ?_) rfl (by kernel_rfl) (by kernel_rfl) (by kernel_rfl) (fun _ _ _ h => h) (Or.inl ⟨by rfl, ?_⟩) (by assumption) ?_
            rotate_left
            · (intro w hSw; (try dsimp only at hSw); have hl := look_hit hSw.1 HF.out false; go_simp; try with_reducible rfl)
            try simp only [Act.put, List.setIfInBounds_toArray, List.set_cons_zero, List.set_cons_succ]
            refine wpAnyH_take (i := 9) (oi := { dst := some 25, op := Op.nilCheck (Operand.tmp 24), type := 0, pos := "pool.go:89", after := #[{ on := 8, ground := Ground.data }], guard := none }) (v := ?_) rfl (by kernel_rfl) (by kernel_rfl) (by kernel_rfl) (fun _ _ _ h => h) (Or.inl ⟨by rfl, ?_⟩) (by assumption) ?_
            rotate_left
            · (intro w hSw; (try dsimp only at hSw); go_simp; try with_reducible rfl)
            try simp only [Act.put, List.setIfInBounds_toArray, List.set_cons_zero, List.set_cons_succ]
            refine wpAnyH_take (i := 10) (oi := { dst := some 26, op := Op.fieldAddr 76 (Operand.tmp 25) 1, type := 0, pos := "pool.go:89", after := #[{ on := 9, ground := Ground.data }], guard := none }) (v := ?_) rfl (by kernel_rfl) (by kernel_rfl) (by kernel_rfl) (fun _ _ _ h => h) (Or.inl ⟨by rfl, ?_⟩) (by assumption) ?_
            rotate_left
            · (intro w hSw; (try dsimp only at hSw); go_simp; try with_reducible rfl)
            try simp only [Act.put, List.setIfInBounds_toArray, List.set_cons_zero, List.set_cons_succ]
            refine wpAnyH_take (i := 11) (oi := { dst := some 27, op := Op.load 3 (Operand.tmp 26), type := 3, pos := "pool.go:89", after := #[{ on := 10, ground := Ground.data }], guard := none }) (v := ?_) rfl (by kernel_rfl) (by kernel_rfl) (by kernel_rfl) (fun _ _ _ h => h) (Or.inl ⟨by rfl, ?_⟩) (by assumption) ?_
            rotate_left
            · (intro w hSw; (try dsimp only at hSw); go_simp; try with_reducible rfl)
            try simp only [Act.put, List.setIfInBounds_toArray, List.set_cons_zero, List.set_cons_succ]
            refine wpAnyH_take (i := 12) (oi := { dst := some 28, op := Op.binOp BinOp.eql 3 (Operand.tmp 27) (Operand.const (Value.int IntKind.i64 0)) 3, type := 4, pos := "pool.go:89", after := #[{ on := 11, ground := Ground.data }], guard := none }) (v := ?_) rfl (by kernel_rfl) (by kernel_rfl) (by kernel_rfl) (fun _ _ _ h => h) (Or.inl ⟨by rfl, ?_⟩) (by assumption) ?_
            rotate_left
            · (intro w hSw; (try dsimp only at hSw); go_simp; try with_reducible rfl)
            try simp only [Act.put, List.setIfInBounds_toArray, List.set_cons_zero, List.set_cons_succ]
            refine wpAnyH_take (i := 13) (oi := { dst := some 29, op := Op.move (Operand.tmp 28), type := 4, pos := "pool.go:89", after := #[{ on := 12, ground := Ground.data }], guard := none }) (v := ?_) rfl (by kernel_rfl) (by kernel_rfl) (by kernel_rfl) (fun _ _ _ h => h) (Or.inl ⟨by rfl, ?_⟩) (by assumption) ?_
            rotate_left
            · (intro w hSw; (try dsimp only at hSw); go_simp; try with_reducible rfl)
            try simp only [Act.put, List.setIfInBounds_toArray, List.set_cons_zero, List.set_cons_succ]
            refine wpAnyH_take (i := 14) (oi := { dst := some 30, op := Op.move (Operand.tmp 5), type := 4, pos := "pool.go:89", after := #[{ on := 13, ground := Ground.guard }], guard := some (13, true) }) (v := ?_) rfl (by kernel_rfl) (by kernel_rfl) (by kernel_rfl) (fun _ _ _ h => h) (Or.inl ⟨by rfl, ?_⟩) (by assumption) ?_
            rotate_left
            · (intro w hSw; (try dsimp only at hSw); go_simp; try with_reducible rfl)
            try simp only [Act.put, List.setIfInBounds_toArray, List.set_cons_zero, List.set_cons_succ]
            refine wpAnyH_take (i := 15) (oi := { dst := some 31, op := Op.unOp UnOp.not 4 (Operand.tmp 30), type := 4, pos := "pool.go:89", after := #[{ on := 14, ground := Ground.data }, { on := 13, ground := Ground.guard }], guard := some (13, true) }) (v := ?_) rfl (by kernel_rfl) (by kernel_rfl) (by kernel_rfl) (fun _ _ _ h => h) (Or.inl ⟨by rfl, ?_⟩) (by assumption) ?_
            rotate_left
            · (intro w hSw; (try dsimp only at hSw); go_simp; try with_reducible rfl)
            try simp only [Act.put, List.setIfInBounds_toArray, List.set_cons_zero, List.set_cons_succ]
            refine wpAnyH_take (i := 16) (oi := { dst := some 32, op := Op.move (Operand.tmp 31), type := 4, pos := "pool.go:89", after := #[{ on := 15, ground := Ground.data }, { on := 13, ground := Ground.chain }, { on := 13, ground := Ground.guard }], guard := some (13, true) }) (v := ?_) rfl (by kernel_rfl) (by kernel_rfl) (by kernel_rfl) (fun _ _ _ h => h) (Or.inl ⟨by rfl, ?_⟩) (by assumption) ?_
            rotate_left
            · (intro w hSw; (try dsimp only at hSw); go_simp; try with_reducible rfl)
            try simp only [Act.put, List.setIfInBounds_toArray, List.set_cons_zero, List.set_cons_succ]
            refine wpAnyH_take (i := 17) (oi := { dst := some 33, op := Op.move (Operand.tmp 0), type := 24, pos := "pool.go:89", after := #[{ on := 16, ground := Ground.guard }], guard := some (16, false) }) (v := ?_) rfl (by kernel_rfl) (by kernel_rfl) (by kernel_rfl) (fun _ _ _ h => h) (Or.inl ⟨by rfl, ?_⟩) (by assumption) ?_
            rotate_left
            · (intro w hSw; (try dsimp only at hSw); go_simp; try with_reducible rfl)
            try simp only [Act.put, List.setIfInBounds_toArray, List.set_cons_zero, List.set_cons_succ]
            refine wpAnyH_take (i := 18) (oi := { dst := some 34, op := Op.move (Operand.tmp 6), type := 50, pos := "pool.go:89", after := #[{ on := 16, ground := Ground.guard }], guard := some (16, false) }) (v := ?_) rfl (by kernel_rfl) (by kernel_rfl) (by kernel_rfl) (fun _ _ _ h => h) (Or.inl ⟨by rfl, ?_⟩) (by assumption) ?_
            rotate_left
            · (intro w hSw; (try dsimp only at hSw); go_simp; try with_reducible rfl)
            try simp only [Act.put, List.setIfInBounds_toArray, List.set_cons_zero, List.set_cons_succ]
            refine wpAnyH_take (i := 19) (oi := { dst := some 35, op := Op.move (Operand.tmp 7), type := 3, pos := "pool.go:89", after := #[{ on := 16, ground := Ground.guard }], guard := some (16, false) }) (v := ?_) rfl (by kernel_rfl) (by kernel_rfl) (by kernel_rfl) (fun _ _ _ h => h) (Or.inl ⟨by rfl, ?_⟩) (by assumption) ?_
            rotate_left
            · (intro w hSw; (try dsimp only at hSw); go_simp; try with_reducible rfl)
            try simp only [Act.put, List.setIfInBounds_toArray, List.set_cons_zero, List.set_cons_succ]
            refine wpAnyH_take (i := 20) (oi := { dst := some 36, op := Op.indexAddr 50 (Operand.tmp 34) (Operand.tmp 35), type := 0, pos := "pool.go:89", after := #[{ on := 18, ground := Ground.data }, { on := 19, ground := Ground.data }, { on := 16, ground := Ground.guard }], guard := some (16, false) }) (v := ?_) rfl (by kernel_rfl) (by kernel_rfl) (by kernel_rfl) (fun _ _ _ h => h) (Or.inl ⟨by rfl, ?_⟩) (by assumption) ?_
            rotate_left
            · (intro w hSw; (try dsimp only at hSw); go_simp; try with_reducible rfl)
            try simp only [Act.put, List.setIfInBounds_toArray, List.set_cons_zero, List.set_cons_succ]
            refine wpAnyH_take (i := 21) (oi := { dst := some 37, op := Op.load 3 (Operand.tmp 36), type := 3, pos := "pool.go:89", after := #[{ on := 20, ground := Ground.data }, { on := 16, ground := Ground.guard }], guard := some (16, false) }) (v := ?_) rfl (by kernel_rfl) (by kernel_rfl) (by kernel_rfl) (fun _ _ _ h => h) (Or.inl ⟨by rfl, ?_⟩) (by assumption) ?_
            rotate_left
            · (intro w hSw; (try dsimp only at hSw); go_simp; try with_reducible rfl)
            try simp only [Act.put, List.setIfInBounds_toArray, List.set_cons_zero, List.set_cons_succ]
            refine wpAnyH_take (i := 22) (oi := { dst := some 38, op := Op.move (Operand.tmp 4), type := 3, pos := "pool.go:89", after := #[{ on := 16, ground := Ground.guard }], guard := some (16, false) }) (v := ?_) rfl (by kernel_rfl) (by kernel_rfl) (by kernel_rfl) (fun _ _ _ h => h) (Or.inl ⟨by rfl, ?_⟩) (by assumption) ?_
            rotate_left
            · (intro w hSw; (try dsimp only at hSw); go_simp; try with_reducible rfl)
            try simp only [Act.put, List.setIfInBounds_toArray, List.set_cons_zero, List.set_cons_succ]
            refine wpAnyH_ready (rs := [23]) (by kernel_rfl) (by simp) ?_
            refine AllReadyH.cons (o := { dst := some 39, op := Op.call { callee := Callee.value (Operand.func 66), args := #[Operand.tmp 33, Operand.tmp 37, Operand.tmp 38], argTypes := #[24, 3, 3] }, type := 4, pos := "pool.go:89", after := #[{ on := 17, ground := Ground.data }, { on := 21, ground := Ground.data }, { on := 22, ground := Ground.data }, { on := 16, ground := Ground.chain }, { on := 16, ground := Ground.guard }], guard := some (16, false) }) rfl (fun K hK => ?_) AllReadyH.nil
            go_simp
            refine (Try.elder hHeld.1 HF.out hgS (H0.out f HF.out) (H0.out _ hgS)).mono ?_
            rintro e w2 ⟨rfl, hb2⟩
            rw [hE]
            have hb3 : Below w.heap.size w w2 := HV.out.bel.trans ((Below.refl _ wr).drew.trans (hb2.mono (Nat.le_refl _)) |>.mono HV.out.bel.size)
            have HA2 : Hid (∀ (j x : Nat), L[j]? = some x → ∃ g', some (⟨g, 0, none⟩ : Addr) = some ⟨g', 0, none⟩ ∧ w2.cell? ⟨g', j, none⟩ = some (.int .i64 (x : Int))) := Lib.hid (fun j x hj => by obtain ⟨g1, h1, h2⟩ := HV.out.at' j x hj; exact ⟨g1, h1, cellB (w := wr.drew) h2 hb2⟩)
            have HB0 := Lib.hid hb3
            have HP2 := Lib.hid (PoolI.below hHeld.1 hb2)
            clear hb3
            refine hK.out _ _ ?_ (fun hHeld => ?_)
            · exact ⟨HP2.out, cellB hHeld.2.1 hb2, cellB hHeld.2.2.1 hb2, cellB hHeld.2.2.2 hb2⟩
            clear hK K
            try simp only [Act.put, List.setIfInBounds_toArray, List.set_cons_zero, List.set_cons_succ]
            refine wpAnyH_take (i := 24) (oi := { dst := some 40, op := Op.pick (Operand.tmp 32) (Operand.const (Value.bool true)) (Operand.tmp 39), type := 4, pos := "pool.go:89", after := #[{ on := 16, ground := Ground.data }, { on := 23, ground := Ground.data }, { on := 13, ground := Ground.guard }], guard := some (13, true) }) (v := ?_) rfl (by kernel_rfl) (by kernel_rfl) (by kernel_rfl) (fun _ _ _ h => h) (Or.inl ⟨by rfl, ?_⟩) (by assumption) ?_
            rotate_left
            · (intro w hSw; (try dsimp only at hSw); go_simp; try with_reducible rfl)
            try simp only [Act.put, List.setIfInBounds_toArray, List.set_cons_zero, List.set_cons_succ]
            refine wpAnyH_take (i := 25) (oi := { dst := some 41, op := Op.pick (Operand.tmp 29) (Operand.tmp 40) (Operand.const (Value.bool false)), type := 4, pos := "pool.go:89", after := #[{ on := 13, ground := Ground.data }, { on := 24, ground := Ground.data }], guard := none }) (v := ?_) rfl (by kernel_rfl) (by kernel_rfl) (by kernel_rfl) (fun _ _ _ h => h) (Or.inl ⟨by rfl, ?_⟩) (by assumption) ?_
            rotate_left
            · (intro w hSw; (try dsimp only at hSw); go_simp; try with_reducible rfl)
            try simp only [Act.put, List.setIfInBounds_toArray, List.set_cons_zero, List.set_cons_succ]
            refine wpAnyH_done (by kernel_rfl) ?_ _
            refine NoPanic.normal ?_
            have hcx1 := hHeld.2.2.1
            clear hb2 hHeld hcx hcp hc3
            go_wp2_with fail
            go_step3
            exact ⟨rfl, ⟨_, n, c, L, f.a, i + 1, true, ⟨HP2.out, HB0.out, HV.out.len, by omega, HA2.out, HV.out.perm, HV.out.vic.turn HAp.out HF.out HX.out HP.out.symm (fun _ g3 h3 e3 => by rw [← apart_eq HAp.out hgS h3 e3]; exact hE)⟩, _, _, _, _, _, _, _, _, _, _, _, _, _, _, _, _, _, _, _, _, _, _, _, _, _, _, _, _, _, _, _, _, _, _, _, _, _, _, _, _, _, rfl⟩, by have := HnS.out; simp [intV]; omega⟩
      · have e3 : ((P : Int) == 0) = false := by simp; omega
        have e4 : decide ((P : Int) = 0) = false := decide_eq_false (by omega)
        go_upto_region 6 with fail
        refine wp_region_noPanic ?_
        refine wp_region_held_drew (S := (fun W => PoolI W pb mb fr k now S ∧ W.cell? ⟨pb, 3, none⟩ = some (.map (some mb)) ∧ W.cell? ⟨g, i, none⟩ = some (.int .i64 (f.a : Int)) ∧ W.cell? ⟨f.fb, 1, none⟩ = some (.int .i64 (P : Int)))) (by kernel_rfl) ?_ (fun hHeld => ?_)
        · exact ⟨HV.out.pool.below (Below.refl _ _).drew, hc3, hcx, hcp⟩
        refine wpAnyH_take (i := 0) (oi := { dst := some 16, op := Op.move (Operand.tmp 0), type := 24, pos := "pool.go:89", after := #[], guard := none }) (v := ?_) rfl (by kernel_rfl) (by kernel_rfl) (by kernel_rfl) (fun _ _ _ h => h) (Or.inl ⟨by rfl, ?_⟩) (by assumption) ?_
        rotate_left
        · (intro w hSw; (try dsimp only at hSw); go_simp; try with_reducible rfl)
        try simp only [Act.put, List.setIfInBounds_toArray, List.set_cons_zero, List.set_cons_succ]
        refine wpAnyH_take (i := 1) (oi := { dst := some 17, op := Op.nilCheck (Operand.tmp 16), type := 0, pos := "pool.go:89", after := #[{ on := 0, ground := Ground.data }], guard := none }) (v := ?_) rfl (by kernel_rfl) (by kernel_rfl) (by kernel_rfl) (fun _ _ _ h => h) (Or.inl ⟨by rfl, ?_⟩) (by assumption) ?_
        rotate_left
        · (intro w hSw; (try dsimp only at hSw); go_simp; try with_reducible rfl)
        try simp only [Act.put, List.setIfInBounds_toArray, List.set_cons_zero, List.set_cons_succ]
        refine wpAnyH_take (i := 2) (oi := { dst := some 18, op := Op.fieldAddr 61 (Operand.tmp 17) 3, type := 0, pos := "pool.go:89", after := #[{ on := 1, ground := Ground.data }], guard := none }) (v := ?_) rfl (by kernel_rfl) (by kernel_rfl) (by kernel_rfl) (fun _ _ _ h => h) (Or.inl ⟨by rfl, ?_⟩) (by assumption) ?_
        rotate_left
        · (intro w hSw; (try dsimp only at hSw); go_simp; try with_reducible rfl)
        try simp only [Act.put, List.setIfInBounds_toArray, List.set_cons_zero, List.set_cons_succ]
        refine wpAnyH_take (i := 3) (oi := { dst := some 19, op := Op.load 59 (Operand.tmp 18), type := 59, pos := "pool.go:89", after := #[{ on := 2, ground := Ground.data }], guard := none }) (v := ?_) rfl (by kernel_rfl) (by kernel_rfl) (by kernel_rfl) (fun _ _ _ h => h) (Or.inl ⟨by rfl, ?_⟩) (by assumption) ?_
        rotate_left
        · (intro w hSw; (try dsimp only at hSw); go_simp; try with_reducible rfl)
        try simp only [Act.put, List.setIfInBounds_toArray, List.set_cons_zero, List.set_cons_succ]
        refine wpAnyH_take (i := 4) (oi := { dst := some 20, op := Op.move (Operand.tmp 6), type := 50, pos := "pool.go:89", after := #[], guard := none }) (v := ?_) rfl (by kernel_rfl) (by kernel_rfl) (by kernel_rfl) (fun _ _ _ h => h) (Or.inl ⟨by rfl, ?_⟩) (by assumption) ?_
        rotate_left
        · (intro w hSw; (try dsimp only at hSw); go_simp; try with_reducible rfl)
        try simp only [Act.put, List.setIfInBounds_toArray, List.set_cons_zero, List.set_cons_succ]
        refine wpAnyH_take (i := 5) (oi := { dst := some 21, op := Op.move (Operand.tmp 7), type := 3, pos := "pool.go:89", after := #[], guard := none }) (v := ?_) rfl (by kernel_rfl) (by kernel_rfl) (by kernel_rfl) (fun _ _ _ h => h) (Or.inl ⟨by rfl, ?_⟩) (by assumption) ?_
        rotate_left
        · (intro w hSw; (try dsimp only at hSw); go_simp; try with_reducible rfl)
        try simp only [Act.put, List.setIfInBounds_toArray, List.set_cons_zero, List.set_cons_succ]
        refine wpAnyH_take (i := 6) (oi := { dst := some 22, op := Op.indexAddr 50 (Operand.tmp 20) (Operand.tmp 21), type := 0, pos := "pool.go:89", after := #[{ on := 4, ground := Ground.data }, { on := 5, ground := Ground.data }], guard := none }) (v := ?_) rfl (by kernel_rfl) (by kernel_rfl) (by kernel_rfl) (fun _ _ _ h => h) (Or.inl ⟨by rfl, ?_⟩) (by assumption) ?_
        rotate_left
        · (intro w hSw; (try dsimp only at hSw); go_simp; try with_reducible rfl)
        try simp only [Act.put, List.setIfInBounds_toArray, List.set_cons_zero, List.set_cons_succ]
        refine wpAnyH_take (i := 7) (oi := { dst := some 23, op := Op.load 3 (Operand.tmp 22), type := 3, pos := "pool.go:89", after := #[{ on := 6, ground := Ground.data }], guard := none }) (v := ?_) rfl (by kernel_rfl) (by kernel_rfl) (by kernel_rfl) (fun _ _ _ h => h) (Or.inl ⟨by rfl, ?_⟩) (by assumption) ?_
        rotate_left
        · (intro w hSw; (try dsimp only at hSw); go_simp; try with_reducible rfl)
        try simp only [Act.put, List.setIfInBounds_toArray, List.set_cons_zero, List.set_cons_succ]
        refine wpAnyH_take (i := 8) (oi := { dst := some 24, op := Op.lookup 59 (Operand.tmp 19) (Operand.tmp 23) false, type := 71, pos := "pool.go:89", after := #[{ on := 3, ground := Ground.data }, { on := 7, ground := Ground.data }], guard := none }) (v := ?_) rfl (by kernel_rfl) (by kernel_rfl) (by kernel_rfl) (fun _ _ _ h => h) (Or.inl ⟨by rfl, ?_⟩) (by assumption) ?_
        rotate_left
        · (intro w hSw; (try dsimp only at hSw); have hl := look_hit hSw.1 HF.out false; go_simp; try with_reducible rfl)
        try simp only [Act.put, List.setIfInBounds_toArray, List.set_cons_zero, List.set_cons_succ]
        refine wpAnyH_take (i := 9) (oi := { dst := some 25, op := Op.nilCheck (Operand.tmp 24), type := 0, pos := "pool.go:89", after := #[{ on := 8, ground := Ground.data }], guard := none }) (v := ?_) rfl (by kernel_rfl) (by kernel_rfl) (by kernel_rfl) (fun _ _ _ h => h) (Or.inl ⟨by rfl, ?_⟩) (by assumption) ?_
        rotate_left
        · (intro w hSw; (try dsimp only at hSw); go_simp; try with_reducible rfl)
        try simp only [Act.put, List.setIfInBounds_toArray, List.set_cons_zero, List.set_cons_succ]
        refine wpAnyH_take (i := 10) (oi := { dst := some 26, op := Op.fieldAddr 76 (Operand.tmp 25) 1, type := 0, pos := "pool.go:89", after := #[{ on := 9, ground := Ground.data }], guard := none }) (v := ?_) rfl (by kernel_rfl) (by kernel_rfl) (by kernel_rfl) (fun _ _ _ h => h) (Or.inl ⟨by rfl, ?_⟩) (by assumption) ?_
        rotate_left
        · (intro w hSw; (try dsimp only at hSw); go_simp; try with_reducible rfl)
        try simp only [Act.put, List.setIfInBounds_toArray, List.set_cons_zero, List.set_cons_succ]
        refine wpAnyH_take (i := 11) (oi := { dst := some 27, op := Op.load 3 (Operand.tmp 26), type := 3, pos := "pool.go:89", after := #[{ on := 10, ground := Ground.data }], guard := none }) (v := ?_) rfl (by kernel_rfl) (by kernel_rfl) (by kernel_rfl) (fun _ _ _ h => h) (Or.inl ⟨by rfl, ?_⟩) (by assumption) ?_
        rotate_left
        · (intro w hSw; (try dsimp only at hSw); go_simp; try with_reducible rfl)
        try simp only [Act.put, List.setIfInBounds_toArray, List.set_cons_zero, List.set_cons_succ]
        refine wpAnyH_take (i := 12) (oi := { dst := some 28, op := Op.binOp BinOp.eql 3 (Operand.tmp 27) (Operand.const (Value.int IntKind.i64 0)) 3, type := 4, pos := "pool.go:89", after := #[{ on := 11, ground := Ground.data }], guard := none }) (v := ?_) rfl (by kernel_rfl) (by kernel_rfl) (by kernel_rfl) (fun _ _ _ h => h) (Or.inl ⟨by rfl, ?_⟩) (by assumption) ?_
        rotate_left
        · (intro w hSw; (try dsimp only at hSw); go_simp; try with_reducible rfl)
        try simp only [Act.put, List.setIfInBounds_toArray, List.set_cons_zero, List.set_cons_succ]
        refine wpAnyH_take (i := 13) (oi := { dst := some 29, op := Op.move (Operand.tmp 28), type := 4, pos := "pool.go:89", after := #[{ on := 12, ground := Ground.data }], guard := none }) (v := ?_) rfl (by kernel_rfl) (by kernel_rfl) (by kernel_rfl) (fun _ _ _ h => h) (Or.inl ⟨by rfl, ?_⟩) (by assumption) ?_
        rotate_left
        · (intro w hSw; (try dsimp only at hSw); go_simp; try with_reducible rfl)
        try simp only [Act.put, List.setIfInBounds_toArray, List.set_cons_zero, List.set_cons_succ]
        refine wpAnyH_take (i := 14) (oi := { dst := some 30, op := Op.move (Operand.tmp 5), type := 4, pos := "pool.go:89", after := #[{ on := 13, ground := Ground.guard }], guard := some (13, true) }) (v := undef) rfl (by kernel_rfl) (by kernel_rfl) (by kernel_rfl) (fun _ _ _ h => h) (Or.inr ⟨by rfl, rfl⟩) (by assumption) ?_
        try simp only [Act.put, List.setIfInBounds_toArray, List.set_cons_zero, List.set_cons_succ]
        refine wpAnyH_take (i := 15) (oi := { dst := some 31, op := Op.unOp UnOp.not 4 (Operand.tmp 30), type := 4, pos := "pool.go:89", after := #[{ on := 14, ground := Ground.data }, { on := 13, ground := Ground.guard }], guard := some (13, true) }) (v := undef) rfl (by kernel_rfl) (by kernel_rfl) (by kernel_rfl) (fun _ _ _ h => h) (Or.inr ⟨by rfl, rfl⟩) (by assumption) ?_
        try simp only [Act.put, List.setIfInBounds_toArray, List.set_cons_zero, List.set_cons_succ]
        refine wpAnyH_take (i := 16) (oi := { dst := some 32, op := Op.move (Operand.tmp 31), type := 4, pos := "pool.go:89", after := #[{ on := 15, ground := Ground.data }, { on := 13, ground := Ground.chain }, { on := 13, ground := Ground.guard }], guard := some (13, true) }) (v := undef) rfl (by kernel_rfl) (by kernel_rfl) (by kernel_rfl) (fun _ _ _ h => h) (Or.inr ⟨by rfl, rfl⟩) (by assumption) ?_
        try simp only [Act.put, List.setIfInBounds_toArray, List.set_cons_zero, List.set_cons_succ]
        refine wpAnyH_take (i := 17) (oi := { dst := some 33, op := Op.move (Operand.tmp 0), type := 24, pos := "pool.go:89", after := #[{ on := 16, ground := Ground.guard }], guard := some (16, false) }) (v := undef) rfl (by kernel_rfl) (by kernel_rfl) (by kernel_rfl) (fun _ _ _ h => h) (Or.inr ⟨by rfl, rfl⟩) (by assumption) ?_
        try simp only [Act.put, List.setIfInBounds_toArray, List.set_cons_zero, List.set_cons_succ]
        refine wpAnyH_take (i := 18) (oi := { dst := some 34, op := Op.move (Operand.tmp 6), type := 50, pos := "pool.go:89", after := #[{ on := 16, ground := Ground.guard }], guard := some (16, false) }) (v := undef) rfl (by kernel_rfl) (by kernel_rfl) (by kernel_rfl) (fun _ _ _ h => h) (Or.inr ⟨by rfl, rfl⟩) (by assumption) ?_
        try simp only [Act.put, List.setIfInBounds_toArray, List.set_cons_zero, List.set_cons_succ]
        refine wpAnyH_take (i := 19) (oi := { dst := some 35, op := Op.move (Operand.tmp 7), type := 3, pos := "pool.go:89", after := #[{ on := 16, ground := Ground.guard }], guard := some (16, false) }) (v := undef) rfl (by kernel_rfl) (by kernel_rfl) (by kernel_rfl) (fun _ _ _ h => h) (Or.inr ⟨by rfl, rfl⟩) (by assumption) ?_
        try simp only [Act.put, List.setIfInBounds_toArray, List.set_cons_zero, List.set_cons_succ]
        refine wpAnyH_take (i := 20) (oi := { dst := some 36, op := Op.indexAddr 50 (Operand.tmp 34) (Operand.tmp 35), type := 0, pos := "pool.go:89", after := #[{ on := 18, ground := Ground.data }, { on := 19, ground := Ground.data }, { on := 16, ground := Ground.guard }], guard := some (16, false) }) (v := undef) rfl (by kernel_rfl) (by kernel_rfl) (by kernel_rfl) (fun _ _ _ h => h) (Or.inr ⟨by rfl, rfl⟩) (by assumption) ?_
        try simp only [Act.put, List.setIfInBounds_toArray, List.set_cons_zero, List.set_cons_succ]
        refine wpAnyH_take (i := 21) (oi := { dst := some 37, op := Op.load 3 (Operand.tmp 36), type := 3, pos := "pool.go:89", after := #[{ on := 20, ground := Ground.data }, { on := 16, ground := Ground.guard }], guard := some (16, false) }) (v := undef) rfl (by kernel_rfl) (by kernel_rfl) (by kernel_rfl) (fun _ _ _ h => h) (Or.inr ⟨by rfl, rfl⟩) (by assumption) ?_
        try simp only [Act.put, List.setIfInBounds_toArray, List.set_cons_zero, List.set_cons_succ]
        refine wpAnyH_take (i := 22) (oi := { dst := some 38, op := Op.move (Operand.tmp 4), type := 3, pos := "pool.go:89", after := #[{ on := 16, ground := Ground.guard }], guard := some (16, false) }) (v := undef) rfl (by kernel_rfl) (by kernel_rfl) (by kernel_rfl) (fun _ _ _ h => h) (Or.inr ⟨by rfl, rfl⟩) (by assumption) ?_
        try simp only [Act.put, List.setIfInBounds_toArray, List.set_cons_zero, List.set_cons_succ]
        refine wpAnyH_take (i := 23) (oi := { dst := some 39, op := Op.call { callee := Callee.value (Operand.func 66), args := #[Operand.tmp 33, Operand.tmp 37, Operand.tmp 38], argTypes := #[24, 3, 3] }, type := 4, pos := "pool.go:89", after := #[{ on := 17, ground := Ground.data }, { on := 21, ground := Ground.data }, { on := 22, ground := Ground.data }, { on := 16, ground := Ground.chain }, { on := 16, ground := Ground.guard }], guard := some (16, false) }) (v := undef) rfl (by kernel_rfl) (by kernel_rfl) (by kernel_rfl) (fun _ _ _ h => h) (Or.inr ⟨by rfl, rfl⟩) (by assumption) ?_
        try simp only [Act.put, List.setIfInBounds_toArray, List.set_cons_zero, List.set_cons_succ]
        refine wpAnyH_take (i := 24) (oi := { dst := some 40, op := Op.pick (Operand.tmp 32) (Operand.const (Value.bool true)) (Operand.tmp 39), type := 4, pos := "pool.go:89", after := #[{ on := 16, ground := Ground.data }, { on := 23, ground := Ground.data }, { on := 13, ground := Ground.guard }], guard := some (13, true) }) (v := undef) rfl (by kernel_rfl) (by kernel_rfl) (by kernel_rfl) (fun _ _ _ h => h) (Or.inr ⟨by rfl, rfl⟩) (by assumption) ?_
        try simp only [Act.put, List.setIfInBounds_toArray, List.set_cons_zero, List.set_cons_succ]
        refine wpAnyH_take (i := 25) (oi := { dst := some 41, op := Op.pick (Operand.tmp 29) (Operand.tmp 40) (Operand.const (Value.bool false)), type := 4, pos := "pool.go:89", after := #[{ on := 13, ground := Ground.data }, { on := 24, ground := Ground.data }], guard := none }) (v := ?_) rfl (by kernel_rfl) (by kernel_rfl) (by kernel_rfl) (fun _ _ _ h => h) (Or.inl ⟨by rfl, ?_⟩) (by assumption) ?_
        rotate_left
        · (intro w hSw; (try dsimp only at hSw); go_simp; try with_reducible rfl)
        try simp only [Act.put, List.setIfInBounds_toArray, List.set_cons_zero, List.set_cons_succ]
        refine wpAnyH_done (by kernel_rfl) ?_ _
        refine NoPanic.normal ?_
        obtain ⟨hp1, -, hcx1, -⟩ := hHeld
        have hb0 : Below w.heap.size w wr.drew := HV.out.bel.drew
        have hat1 := fun j x hj => HV.out.at' j x hj
        have HP1 := Lib.hid hp1
        generalize hw0 : wr.drew = w0 at hp1 hb0 hcx1 ⊢
        have hat2 : ∀ (j x : Nat), L[j]? = some x → ∃ g', some (⟨g, 0, none⟩ : Addr) = some ⟨g', 0, none⟩ ∧ w0.cell? ⟨g', j, none⟩ = some (.int .i64 (x : Int)) := by rw [← hw0]; exact hat1
        have HA2 := Lib.hid hat2
        have HB0 := Lib.hid hb0
        have HP2 := Lib.hid hp1
        clear hat1 hp1 hb0 hw0 HP1 hat2 hc3 hcp
        go_wp2_with fail
        go_step3
        exact ⟨rfl, ⟨_, n, c, L, best, i + 1, fnd, ⟨HP2.out, HB0.out, HV.out.len, by omega, HA2.out, HV.out.perm, HV.out.vic.more HAp.out HF.out HX.out (fun h => absurd (HP.out.trans h) hp0)⟩, _, _, _, _, _, _, _, _, _, _, _, _, _, _, _, _, _, _, _, _, _, _, _, _, _, _, _, _, _, _, _, _, _, _, _, _, _, _, _, _, _, rfl⟩, by have := HnS.out; simp [intV]; omega⟩
    · obtain rfl : i = n := by omega
      have e1 : ((i : Int) == i) = true := by simp
      go_wp2_with fail
      simp only [Exit.jump]
      go_ret2
      refine ⟨best, fnd, rfl, ?_, HV.out.bel⟩
      have := HV.out.vic
      rw [← HV.out.len, List.take_length] at this
      exact this.perm HV.out.perm
end Go.Proofs.Ytjilpkmcddinaaa
end
