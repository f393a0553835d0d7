/-
  Texts of a proof over the translated program: proved evaluators and walks, part 11 of 14.
-/
import Derived.Test.YtfblhcphbcghpaaPartM10
import Derived.Below
import Derived.Deep.Cut
import Derived.Deep.Draws
import Derived.Deep.OwnRows
import Derived.Deep.RegionHeld3
import Derived.Deep.RegionLaw
import Derived.Deep.RegionLawGrows
import Derived.Deep.RegionWith
import Derived.Handy
import Derived.IntWalk
import Derived.Laws.AppendOwn
import Derived.Laws.AppendOwnNone
import Derived.Laws.BitsLemmas
import Derived.Laws.BytesArg
import Derived.Laws.BytesString
import Derived.Laws.Closers25b
import Derived.Laws.CopyOwn
import Derived.Laws.MakeOwn
import Derived.Laws.OwnMore
import Derived.Laws.Rows
import Derived.Laws.StructEq
import Derived.Lib.Hide
import Derived.Lib.SlBytesRow
import Derived.LoopTactic
import Derived.Outline
import Derived.OwnWalk
import Derived.Scope
import Derived.ScopeJumps
import Derived.Test.YtfblhcphbcghpaaProg
import Derived.WalkKit
import Derived.WalkMore
import Derived.WalkSpells
import Derived.Lib.AppendStr
set_option linter.unusedVariables false
set_option linter.unusedSimpArgs false
set_option linter.unusedSectionVars false
set_option linter.unnecessarySimpa false
section
namespace Go.Proofs.Ytfblhcphbcghpaa
open Go.RowKit Go.FM
open Go.NR (Elems wpList_app)
set_option maxRecDepth 100000
theorem Try.E50 : Elems Try.prog 50 5 1 1 (.int .u8 0) := ⟨by kernel_rfl, by kernel_rfl, rfl, by decide, by decide⟩
def psz (n : Nat) : Nat := (4 + (encN n).length + n + 63) / 64
def prest (l : List UInt8) : List UInt8 := (encN l.length ++ l) ++ List.replicate (64 * psz l.length - 4 - (encN l.length ++ l).length) 0
def pageB (l : List UInt8) : List UInt8 := le4 (sumS (prest l)) ++ prest l
theorem encN_len2 {n : Nat} (h : n ≤ 8192) : 1 ≤ (encN n).length ∧ (encN n).length ≤ 2 := by
  refine ⟨?_, encF_len2 10 n 2 (by have : (128 : Nat) ^ 2 = 16384 := by decide
                                   omega) (by decide)⟩
  unfold encN
  by_cases hu : n < 128
  · rw [encF_last 9 n hu]; simp
  · rw [encF_more 9 n hu]; simp
theorem psz_in {n : Nat} (h : n ≤ 8192) : 1 ≤ psz n ∧ psz n ≤ 129 ∧ 4 + (encN n).length + n ≤ 64 * psz n ∧ 64 * psz n ≤ 4 + (encN n).length + n + 63 := by
  have := encN_len2 h
  unfold psz
  omega
theorem prest_len {l : List UInt8} (h : l.length ≤ 8192) : (prest l).length = 64 * psz l.length - 4 := by
  have := psz_in h
  unfold prest
  rw [List.length_append, List.length_replicate, List.length_append]
  omega
theorem pageB_len {l : List UInt8} (h : l.length ≤ 8192) : (pageB l).length = 64 * psz l.length := by
  have := psz_in h
  unfold pageB
  rw [List.length_append, prest_len h]
  have : (le4 (sumS (prest l))).length = 4 := rfl
  omega
set_option maxHeartbeats 4000000 in
theorem Try.psize (n : Nat) (hn : n ≤ 8192) (w : World) : Calls Try.prog 73 #[.int .i64 n] w fun e w' => e = .returned (.int .i64 (psz n : Nat)) ∧ Below w.heap.size w w' := by
  have g1 : decide ((n : Int) < 0) = false := by simp
  have g2 : decide ((8192 : Int) < (n : Int)) = false := decide_eq_false (by omega)
  have g3 : decide (8192 < n) = false := decide_eq_false (by omega)
  have u1 : IntKind.u64.wrap (n : Int) = (n : Int) := wrapu (by omega) (by omega)
  go_enter Try.func73, Try.ntmps73
  go_wp2_with fail
  refine (Try.put w (di_nil w) (by omega) n (by omega)).mono ?_
  rintro x w1 ⟨v1, rfl, ho, hb⟩
  obtain ⟨A, c, hv, hd⟩ := ho.di
  subst hv
  rw [List.nil_append] at hd ⊢
  have hm := encN_len2 hn
  have hp : psz n = (4 + (encN n).length + n + 63) / 64 := rfl
  obtain ⟨m, hm'⟩ : ∃ m, (encN n).length = m := ⟨_, rfl⟩
  rw [hm'] at hm hp
  rw [hm']
  have B1 := Lib.hid hb
  have hP : Hid ((psz n : Int) = (((4 + m + n + 63) / 64 : Nat) : Int)) := Lib.hid (by rw [hp])
  have e1 : IntKind.i64.wrap (4 + (m : Int)) = ((4 + m : Nat) : Int) := by rw [wrapi (by omega) (by omega)]; omega
  clear ho hb hd hp hm'
  go_wp2_with fail
  go_ret
  refine ⟨?_, B1.out⟩
  rw [hP.out]
  exact congrArg (fun z => Ending.returned (Value.int IntKind.i64 z)) (by omega)
def WrapP (w : World) (l : List UInt8) (x : Ending) (w' : World) : Prop := ∃ v, x = .returned (.tuple #[v, .int .i64 0]) ∧ OB w' w.heap.size v (pageB l) ∧ Below w.heap.size w w'
end Go.Proofs.Ytfblhcphbcghpaa
end

section
namespace Go.Proofs.Ytfblhcphbcghpaa
open Go.RowKit Go.FM
set_option maxRecDepth 100000
theorem DI.place {w : World} {A : Option Addr} {n c : Nat} {l : List UInt8} (h : DI w A n c l) (hn : 0 < n) : ∃ b o, A = some ⟨b, o, none⟩ := by
  have hl := h.len
  obtain ⟨X, rfl, c0⟩ := h.at' 0 _ (List.getElem?_eq_getElem (by omega))
  have hs := World.cell?_spot c0
  obtain ⟨b, o, sp⟩ := X
  cases sp with
  | none => exact ⟨b, o, rfl⟩
  | some q => simp [Addr.add] at hs
theorem DI.cut {w : World} {b o n c : Nat} {l : List UInt8} (h : DI w (some ⟨b, o, none⟩) n c l) (k m c' : Nat) (hk : k + m ≤ n) (hm : m ≤ c') (hc : c' ≤ maxLen) : DI w (some ⟨b, o + k, none⟩) m c' ((l.drop k).take m) := by
  have hl := h.len
  refine ⟨by rw [List.length_take, List.length_drop]; omega, hm, hc, fun j x hj => ⟨_, rfl, ?_⟩⟩
  have hjm : j < m := by
    have := (List.getElem?_eq_some_iff.1 hj).1
    rw [List.length_take] at this
    omega
  rw [List.getElem?_take, if_pos hjm, List.getElem?_drop] at hj
  obtain ⟨X, e, hc⟩ := h.at' _ _ hj
  cases e
  rw [Addr.add_lit] at hc ⊢
  rw [Nat.add_assoc]
  exact hc
theorem pageB_sum (l : List UInt8) : num4 (pageB l) = sumS (prest l) := num4_le4 _ (sumS_lt _) _
theorem pageB_drop (l : List UInt8) : (pageB l).drop 4 = prest l := rfl
theorem prest_get {l : List UInt8} (h : l.length ≤ 8192) : getN (prest l) 0 = ((l.length : Int), (encN l.length).length, 0) := getN_put (r := l ++ List.replicate (64 * psz l.length - 4 - (encN l.length ++ l).length) 0) (by unfold prest; rw [List.drop_zero, List.append_assoc]) (by omega)
theorem prest_body (l : List UInt8) : ((prest l).drop (encN l.length).length).take l.length = l := by
  unfold prest
  rw [List.append_assoc, List.drop_left, List.take_left]
theorem prest_zero (l : List UInt8) (j : Nat) (x : UInt8) (hj : ((prest l).drop ((encN l.length).length + l.length))[j]? = some x) : x = 0 := by
  unfold prest at hj
  rw [← List.length_append, List.drop_left] at hj
  have := (List.getElem?_eq_some_iff.1 hj)
  obtain ⟨h1, h2⟩ := this
  rw [List.getElem_replicate] at h2
  exact h2.symm
theorem BY.di {w : World} {b : Nat} {l : List UInt8} {c : Nat} (h : BY w b l c) (m : Nat) (hm : m ≤ c) (hl : l.length = m) : DI w (some ⟨b, 0, none⟩) m c l := by
  obtain ⟨pad, h1, h2, h3⟩ := id h
  refine ⟨hl, hm, h3, fun j x hj => ⟨_, rfl, ?_⟩⟩
  have := h.all j (u8v x) (by rw [List.getElem?_map, hj]; rfl)
  exact this
def UnP (w : World) (l : List UInt8) (x : Ending) (w' : World) : Prop := ∃ A c, x = .returned (.tuple #[.slice A l.length c, .int .i64 0]) ∧ DI w' A l.length c l ∧ Below w.heap.size w w'
set_option maxHeartbeats 8000000 in
theorem Try.unwrap (w : World) {A : Option Addr} {n c : Nat} {l : List UInt8} (hl : l.length ≤ 8192) (hD : DI w A n c (pageB l)) : Calls Try.prog 93 #[.slice A n c] w (UnP w l) := by
  have hn := hD.len
  rw [pageB_len hl] at hn
  have hps := psz_in hl
  have hm := encN_len2 hl
  have hle := hD.le
  have hmx := hD.max
  obtain ⟨b, o, rfl⟩ := hD.place (by omega)
  have hD2 := hD.cut 4 (n - 4) (c - 4) (by omega) (by omega) (by omega)
  rw [pageB_drop] at hD2
  have hRL := prest_len hl
  rw [List.take_of_length_le (by omega)] at hD2
  have hsum := pageB_sum l
  have hget := prest_get hl
  have hS := sumS_lt (prest l)
  obtain ⟨s, hs⟩ : ∃ s, sumS (prest l) = s := ⟨_, rfl⟩
  rw [hs] at hsum hS
  obtain ⟨k, hk⟩ : ∃ k, (encN l.length).length = k := ⟨_, rfl⟩
  rw [hk] at hget hm hps
  have hbody := prest_body l
  rw [hk] at hbody
  have hz := prest_zero l
  rw [hk] at hz
  obtain ⟨m, hmm⟩ : ∃ m, l.length = m := ⟨_, rfl⟩
  have hpz := Try.psize m (by omega)
  rw [hmm] at hget hps hn hl hbody hz hRL
  obtain ⟨p, hp⟩ : ∃ p, psz m = p := ⟨_, rfl⟩
  rw [hp] at hps hn hpz hRL
  have hD3 := hD2.cut k m (c - 4 - k) (by omega) (by omega) (by omega)
  rw [hbody] at hD3
  obtain ⟨RS, hRS⟩ : ∃ R, prest l = R := ⟨_, rfl⟩
  rw [hRS] at hs hget hD2 hz
  obtain ⟨t, ht⟩ : ∃ t, n - 4 - (k + m) = t := ⟨_, rfl⟩
  have hcell : ∀ i, i < t → w.cell? ⟨b, o + 4 + (k + m) + i, none⟩ = some (.int .u8 0) := by
    intro i hi
    have hx : RS[k + m + i]? = some (RS[k + m + i]'(by have := hD2.len; omega)) := List.getElem?_eq_getElem _
    have h0 := hz i _ (by rw [List.getElem?_drop]; exact hx)
    rw [h0] at hx
    obtain ⟨X, e, hc⟩ := hD2.at' _ _ hx
    cases e
    rw [Addr.add_lit] at hc
    rw [Nat.add_assoc (o + 4)]
    exact hc
  have HC := Lib.hid hcell
  have H0 := Lib.hid hD
  have H2 := Lib.hid hD2
  have H3 := Lib.hid hD3
  have HG := Lib.hid hget
  have HS := Lib.hid hs
  have HSM := Lib.hid hsum
  have HPZ := Lib.hid hpz
  have HL := Lib.hid hmm
  have HZ := Lib.hid (sumS_lt RS)
  clear hcell hD hD2 hD3 hget hs hsum hpz hmm hbody hz hRS hRL hp
  have d1 : ((n : Int) == 0) = false := by simp; omega
  have d2 : ((n : Int) % 64) = 0 := by omega
  have d3 : decide ((8192 : Int) < (m : Int)) = false := decide_eq_false (by omega)
  have d3' : decide (8192 < m) = false := decide_eq_false (by omega)
  have s1 : IntKind.i64.wrap (m : Int) = (m : Int) := wrapi (by omega) (by omega)
  have j0 : 4 ≤ n := by omega
  go_enter Try.func93, Try.ntmps93
  go_wp2_with fail
  refine (Try.get4v w H0.out (by omega) j0).mono ?_
  rintro x w1 ⟨rfl, hh1, hb1⟩
  rw [HSM.out]
  have B1 := Lib.hid hb1
  have D1 := Lib.hid (H2.out.below hb1)
  clear hh1 hb1
  go_wp2_with fail
  refine (sum_by Try.sum w1 _ _ _ RS D1.out (by omega)).mono ?_
  rintro x w2 ⟨rfl, hw2⟩
  rw [hw2, HS.out]
  clear hw2 w2
  go_wp2_with fail
  refine (Try.get w1 D1.out (by omega) 0 (by omega)).mono ?_
  rintro x w2 ⟨rfl, hw2⟩
  rw [hw2, HG.out]
  clear hw2 w2
  dsimp only
  go_wp2_with fail
  refine (HPZ.out w1).mono ?_
  rintro x w2 ⟨rfl, hb2⟩
  have B2 := Lib.hid ((B1.out).trans (hb2.mono (B1.out).size))
  have D2 := Lib.hid (D1.out.below hb2)
  obtain ⟨e, he⟩ : ∃ e, k + m = e := ⟨_, rfl⟩
  have C2 : Hid (∀ i, i < t → w2.cell? ⟨b, o + 4 + e + i, none⟩ = some (.int .u8 0)) := Lib.hid (fun i hi => by rw [← he]; exact cellW (HC.out i hi) B2.out)
  have D3 := Lib.hid (H3.out.below B2.out)
  have q0 : IntKind.i64.wrap ((p : Int) * 64) = (p : Int) * 64 := wrapi (by omega) (by omega)
  have q1 : ((p : Int) * 64 != (n : Int)) = false := by simp; omega
  have q2 : IntKind.i64.wrap ((k : Int) + (m : Int)) = (e : Nat) := by rw [wrapi (by omega) (by omega)]; omega
  have q3 : (k : Int) + (m : Int) = (e : Nat) := by omega
  have q4 : e ≤ n - 4 := by omega
  have q5 : k ≤ e := by omega
  have q6 : n - 4 - e = t := by omega
  have q7 : k < c - 4 := by omega
  have q8 : e ≤ c - 4 := by omega
  have qe : e < 10000 := by omega
  have qn : n < 10000 := by omega
  have qt : t < 10000 := by omega
  have q9 : m ≤ 8192 := by omega
  have qa : e - k = m := by omega
  have HLE := Lib.hid (And.intro hps (And.intro hn (And.intro hle hmx)))
  have qb : e < c - 4 ∨ t = 0 := by omega
  have HQB := Lib.hid qb
  have qc : n - 4 ≤ c - 4 := by omega
  clear hb2 B1 D1 hps hn hle hmx qb hS he hm hl
  go_wp2_with fail
  all_goals
    go_loop [64] (fun x => ∃ i : Nat, i ≤ t ∧ x = .int .i64 i) (fun x => t - (intOf x).toNat)
    case atStart => exact ⟨0, Nat.zero_le _, rfl⟩
    case round =>
      obtain ⟨i, hi, rfl⟩ := hrel
      by_cases hlt : i < t
      · have hD : decide ((i : Int) < (t : Int)) = true := decide_eq_true (by omega)
        have hD' : decide (i < t) = true := decide_eq_true (by omega)
        first
          | (exfalso; have := HQB.out; omega)
          | (have hcl := C2.out i hlt
             clear q0 q1 q2 q3 s1 d1 d2 d3 d3'
             go_wp2_with fail
             exact ⟨⟨i + 1, by omega, rfl⟩, by simp [intOf]; omega⟩)
      · obtain rfl : i = t := by omega
        have hD : decide ((i : Int) < (i : Int)) = false := by simp
        have hD' : decide (i < i) = false := by simp
        clear q0 q1 q2 q3 s1 d1 d2 d3 d3'
        go_wp2_with fail
        refine (Try.clone ⟨b, o + 4 + k, none⟩ m _ w2 (by omega) l HL.out (D3.out.srcX (Below.refl _ w2))).mono ?_
        rintro x w4 ⟨b4, c4, rfl, hb1, hb2, hb3, hb4⟩
        have BB := Lib.hid (B2.out.trans (hb4.mono B2.out.size))
        have BD := Lib.hid (hb3.di m hb2 HL.out)
        clear hb1 hb2 hb3 hb4
        go_wp2_with fail
        go_ret2
        refine ⟨some ⟨b4, 0, none⟩, c4, ?_, ?_, BB.out⟩
        · rw [HL.out]; rfl
        · rw [HL.out]; exact BD.out
end Go.Proofs.Ytfblhcphbcghpaa
end

section
namespace Go.Proofs.Ytfblhcphbcghpaa
open Go.RowKit
set_option maxRecDepth 100000
theorem Try.there_yes {w : World} {F : Nat → Prop} {d k : Nat} {L T : List UInt8} {Q : List (Nat × List UInt8)} (hd : DV w F d k L T Q) (i n : Int) (h : 1 ≤ n ∧ n ≤ k ∧ 0 ≤ i ∧ i ≤ k - n) :
    Calls Try.prog 46 #[.pointer (some ⟨d, 0, none⟩), .int .i64 i, .int .i64 n] w fun e w' => e = .returned (.bool true) ∧ w = w' := by
  obtain ⟨lb, cl, tb, ct, vw, ds, hd⟩ := hd
  have c1 := hd.c1
  have hk := hd.hk
  have h16 : 64 * k ≤ 65536 := by omega
  have hq : 64 * k / 64 = k := by omega
  have hs : IntKind.i64.wrap ((k : Int) - n) = k - n := by rw [IntKind.wrap_i64]; omega
  have p1 : decide (1 ≤ n) = true := by simp; omega
  have p2 : decide (n ≤ k) = true := by simp; omega
  have p3 : decide (0 ≤ i) = true := by simp; omega
  have p4 : decide (i ≤ k - n) = true := by simp; omega
  clear h
  go_enter Try.func46, Try.ntmps46
  go_wp2_with (go_at_call 74; refine (Try.blocks _ _ _ _ h16 _ c1).mono ?_; rintro e w' ⟨rfl, rfl⟩; rw [hq])
  go_ret
  exact ⟨rfl, rfl⟩
end Go.Proofs.Ytfblhcphbcghpaa
end

section
namespace Go.Proofs.Ytfblhcphbcghpaa
open Go.RowKit
set_option maxRecDepth 100000
theorem DW.stay {w w' : World} {F S : Nat → Prop} {d k lb cl tb ct : Nat} {vw : Value} {ds : List (Nat × Nat)} {L T : List UInt8} {Q : List (Nat × List UInt8)} (hd : DW w F d k lb cl tb ct vw ds L T Q) (hc : Chg w w' S) (hS : ∀ b, F b → ¬ S b) :
    DW w' F d k lb cl tb ct vw ds L T Q := by
  have hb : ∀ b, F b → w'.heap[b]? = w.heap[b]? := fun b h => hc.block b (hd.lt b h) (hS b h)
  exact ⟨fun b h => Nat.lt_of_lt_of_le (hd.lt b h) hc.size, (hb d hd.fd).trans hd.here, hd.fd, hd.fl, hd.ft, hd.dl, hd.dt, hd.lt', hd.hk, hd.Ll, hd.Tl, hd.bl.congr (hb lb hd.fl), hd.bt.congr (hb tb hd.ft), hd.cl', hd.ct', own_stay hd.ow (fun b h => hb b (hd.fw b h).1), hd.fw, AllW.stay (fun b q => q) (fun b q1 q2 => ⟨hb b q1, q2⟩) _ _ hd.al⟩
theorem DV.stay {w w' : World} {F S : Nat → Prop} {d k : Nat} {L T : List UInt8} {Q : List (Nat × List UInt8)} (hd : DV w F d k L T Q) (hc : Chg w w' S) (hS : ∀ b, F b → ¬ S b) : DV w' F d k L T Q := by
  obtain ⟨lb, cl, tb, ct, vw, ds, h⟩ := hd
  exact ⟨lb, cl, tb, ct, vw, ds, h.stay hc hS⟩
theorem DV.below {w w' : World} {F : Nat → Prop} {d k : Nat} {L T : List UInt8} {Q : List (Nat × List UInt8)} (hd : DV w F d k L T Q) (hb : Below w.heap.size w w') : DV w' F d k L T Q := hd.stay (Chg.below hb (fun _ => False)) (fun _ _ => id)
theorem DV.lt {w : World} {F : Nat → Prop} {d k : Nat} {L T : List UInt8} {Q : List (Nat × List UInt8)} (h : DV w F d k L T Q) : ∀ b, F b → b < w.heap.size := by
  obtain ⟨lb, cl, tb, ct, vw, ds, h⟩ := h
  exact h.lt
theorem Upd.comp {a b c : World} {F F1 F2 : Nat → Prop} (h1 : Upd a b F F1) (h2 : Upd b c F1 F2) : Upd a c F F2 :=
  ⟨h2.os.trans h1.os, h2.tape.trans h1.tape, h2.output.trans h1.output, Nat.le_trans h1.size h2.size, fun x hx hn => (h2.block x (Nat.lt_of_lt_of_le hx h1.size) (fun q => by rcases h1.grow x q with q | q; exact hn q; omega)).trans (h1.block x hx hn), fun x hx => by
    rcases h2.grow x hx with q | q
    · exact h1.grow x q
    · exact .inr (Nat.le_trans h1.size q)⟩
theorem Upd.refl (w : World) (F : Nat → Prop) : Upd w w F F := ⟨rfl, rfl, rfl, Nat.le_refl _, fun _ _ _ => rfl, fun _ h => .inl h⟩
theorem Upd.of {w w' : World} (h : Below w.heap.size w w') (F : Nat → Prop) : Upd w w' F F := ⟨h.os, h.tape, h.output, h.size, fun b hb _ => h.block b hb, fun _ h => .inl h⟩
theorem Upd.below {w w' : World} {F F' : Nat → Prop} (h : Upd w w' F F') {B : Nat} (hF : ∀ b, F b → B ≤ b) (hB : B ≤ w.heap.size) : Below B w w' :=
  ⟨h.os, h.tape, h.output, h.size, fun b hb => h.block b (by omega) (fun q => by have := hF b q; omega)⟩
theorem Upd.low {w w' : World} {F F' : Nat → Prop} (h : Upd w w' F F') {B : Nat} (hF : ∀ b, F b → B ≤ b) (hB : B ≤ w.heap.size) : ∀ b, F' b → B ≤ b := fun b hb => by
  rcases h.grow b hb with q | q
  · exact hF b q
  · omega
def layB (T : List UInt8) (a : Nat) (p : List UInt8) : List UInt8 := T.take (64 * a) ++ (p ++ T.drop (64 * a + p.length))
structure PWR (w : World) (F : Nat → Prop) (d k at' : Nat) (L T : List UInt8) (q : Nat) (p : List UInt8) (b cap i : Nat) (wr : World) : Prop where
  ex : ∃ F' Q', DV wr F' d k L (layB T at' (p.take (64 * i))) Q' ∧ Q'.length = q + i ∧ Upd w wr F F' ∧ ¬ F' b
  pg : BY wr b p cap
def PgWrote (w : World) (F : Nat → Prop) (d k at' : Nat) (L T : List UInt8) (q : Nat) (l : List UInt8) (e : Ending) (w' : World) : Prop :=
  e = .returned (.int .i64 0) ∧ ∃ F' Q', DV w' F' d k L (layB T at' (pageB l)) Q' ∧ Q'.length = q + psz l.length ∧ Upd w w' F F'
end Go.Proofs.Ytfblhcphbcghpaa
end

section
namespace Go.Proofs.Ytfblhcphbcghpaa
open Go.RowKit
open Go.NR (wpList_app own_below)
set_option maxRecDepth 100000
def cat (T : List UInt8) (at' i : Nat) : List UInt8 := (T.drop (64 * at')).take (64 * i)
theorem cat_len {T : List UInt8} {k at' i : Nat} (hT : T.length = 64 * k) (h : at' + i ≤ k) : (cat T at' i).length = 64 * i := by
  unfold cat
  rw [List.length_take, List.length_drop, hT]
  omega
theorem cat_succ (T : List UInt8) (at' i : Nat) : cat T at' i ++ (T.drop ((at' + i) * 64)).take 64 = cat T at' (i + 1) := by
  unfold cat
  have e : T.drop ((at' + i) * 64) = (T.drop (64 * at')).drop (64 * i) := by rw [List.drop_drop]; congr 1; omega
  rw [e, show 64 * (i + 1) = 64 * i + 64 by omega, List.take_add]
structure RPR (w : World) (T : List UInt8) (at' i : Nat) (v : Value) (wr : World) : Prop where
  own : wr.ownsRow w.heap.size 5 1 v (64 * i) ((cat T at' i).map u8v)
  bel : Below w.heap.size w wr
  nn : 0 < i → v ≠ .slice none 0 0
set_option maxHeartbeats 4000000 in
theorem Try.pread {w : World} {F : Nat → Prop} {d k : Nat} {L T : List UInt8} {Q : List (Nat × List UInt8)} (hd : DV w F d k L T Q) (at' n : Nat) (h1 : 1 ≤ n) (hfit : at' + n ≤ k) {l : List UInt8} (hl8 : l.length ≤ 8192) (hpg : cat T at' n = pageB l) :
    Calls Try.prog 85 #[.pointer (some ⟨d, 0, none⟩), .int .i64 at', .int .i64 n] w (UnP w l) := by
  have HD := Lib.hid hd
  obtain ⟨hk, hTl⟩ : k ≤ 1024 ∧ T.length = 64 * k := by
    obtain ⟨lb, cl, tb, ct, vw, ds, h⟩ := hd
    exact ⟨h.hk, h.Tl⟩
  have HTL := Lib.hid hTl
  have HPG := Lib.hid hpg
  have HL8 := Lib.hid hl8
  clear hd hTl hpg hl8
  have H0 : Hid (RPR w T at' 0 (.slice none 0 0) w) := Lib.hid ⟨by simpa [cat] using World.ownsRow_nil w w.heap.size 5 1, Below.refl _ _, fun h => absurd h (Nat.lt_irrefl _)⟩
  go_enter Try.func85, Try.ntmps85
  go_wp2
  refine Go.NR.wp_scope_once 0 (fun a' wr => ∃ (i : Nat) (v : Value), i ≤ n ∧ RPR w T at' i v wr ∧ ∃ u10 u11 u12 u13 u14 u15 u16 u17 u18 u19 u20 u21 u22 u23 u24 u25 u26 u27 u28 u29 u30 u31 u32 u33 u34 u35 u36 u37 u38 u39 : Value, a' = { tmps := #[.pointer (some ⟨d, 0, none⟩), .int .i64 at', .int .i64 n, undef, undef, undef, .slice none 0 0, .int .i64 0, v, .int .i64 i, u10, u11, u12, u13, u14, u15, u16, u17, u18, u19, u20, u21, u22, u23, u24, u25, u26, u27, u28, u29, u30, u31, u32, u33, u34, u35, u36, u37, u38, u39], defers := [] }) (fun a' _ => n - (intOf (a'.tmps.getD 9 undef)).toNat) rfl ?_ ?_
  · intro hL
    go_wp2_with fail
    refine (Try.there_yes (HD.out) at' n (by omega)).mono ?_
    rintro e w2 ⟨rfl, rfl⟩
    go_wp2_with (refine wp_label ?_; rename_i Q0 K0 hK; refine hK _ _ (hL _ _ ?_); exact ⟨0, _, Nat.zero_le _, H0.out, _, _, _, _, _, _, _, _, _, _, _, _, _, _, _, _, _, _, _, _, _, _, _, _, _, _, _, _, _, _, rfl⟩)
  · rintro a' wr ⟨i, v, hi, hp, u10, u11, u12, u13, u14, u15, u16, u17, u18, u19, u20, u21, u22, u23, u24, u25, u26, u27, u28, u29, u30, u31, u32, u33, u34, u35, u36, u37, u38, u39, rfl⟩
    by_cases hlt : i < n
    · have hD : ((i : Int) == n) = false := by simp; omega
      have hD2 : decide ((i : Int) = n) = false := by simp; omega
      have hD3 : decide (i = n) = false := by simp; omega
      have HP := Lib.hid hp
      clear hp
      go_wp2_with fail
      have hidx : ((at' : Int) + (i : Int)) = ((at' + i : Nat) : Int) := rfl
      rw [hidx]
      obtain ⟨lb, cl, tb, ct, vw, ds, hdw⟩ := DV.below HD.out (HP.out).bel
      refine (Try.read_good hdw (at' + i) (by omega)).mono ?_
      rintro e w1 ⟨b, c, rfl, z1, z2, z3, z4⟩
      have hown : w1.ownsRow w.heap.size 5 1 v (64 * i) ((cat T at' i).map u8v) := own_below (HP.out).own z4
      have hB1 := Lib.hid ((HP.out).bel.trans (z4.mono (HP.out).bel.size))
      have hsz := (HP.out).bel.size
      have hsz1 := (hB1.out).size
      have hall := z3.all
      have hl64 : ((T.drop ((at' + i) * 64)).take 64).length = 64 := by rw [List.length_take, List.length_drop, HTL.out]; omega
      have hcs := cat_succ T at' i
      generalize (T.drop ((at' + i) * 64)).take 64 = X at hall hl64 hcs
      have HL64 : Hid ((X.map u8v).length = 64 * 1) := Lib.hid (by rw [List.length_map, hl64])
      have HCS := Lib.hid hcs
      have H1 := Lib.hid (u8v_one X)
      have hall' : ∀ j u, (X.map u8v)[j]? = some u → w1.cell? ⟨b, j, none⟩ = some u := fun j u hj => by have := hall j u hj; rwa [Addr.add_lit, Nat.zero_add] at this
      have HG : Hid (∀ kk, v.ownBlock = some kk → w.heap.size ≤ kk) := Lib.hid (fun kk hkk => by
        rcases hown.2 with ⟨rfl, _⟩ | ⟨g, cap, cur, rfl, hg, _⟩
        · simp [Value.ownBlock] at hkk
        · simp [Value.ownBlock] at hkk; omega)
      have HO := Lib.hid hown
      have HA := Lib.hid hall'
      obtain ⟨xs, hxs⟩ : ∃ xs, X.map u8v = xs := ⟨_, rfl⟩
      rw [hxs] at HL64 H1 HA
      have HXS := Lib.hid hxs
      clear hdw hidx HP hl64 hcs z1 z2 z3 z4 hall hall' hown hxs
      go_wp2_with (refine wpList_app Try.E50 rfl (.tmp 35) (.tmp 36) rfl w.heap.size v (64 * i) ((cat T at' i).map u8v) rfl HO.out b 64 c xs rfl HL64.out HA.out H1.out (by omega) (by omega) ?_)
      intro v' w2 hown1 hg
      have hv : v' ≠ .slice none 0 0 := by
        rintro rfl
        rcases hown1.2 with ⟨_, h⟩ | ⟨_, _, _, h, _⟩
        · omega
        · cases h
      have hb2 : Below w.heap.size w w2 := (hB1.out).grown hg (hB1.out).size (HG.out)
      rw [← HXS.out, ← List.map_append, HCS.out] at hown1
      have HN : Hid (RPR w T at' (i + 1) v' w2) := Lib.hid ⟨hown1, hb2, fun _ => hv⟩
      clear hown1 hg hv hb2
      go_wp2
      go_step3
      exact ⟨rfl, ⟨i + 1, _, hlt, HN.out, _, _, _, _, _, _, _, _, _, _, _, _, _, _, _, _, _, _, _, _, _, _, _, _, _, _, _, _, _, _, rfl⟩, by simp [intOf]; omega⟩
    · obtain rfl : i = n := by omega
      obtain ⟨_, b, c, rfl, _, q1, q2⟩ := BY.own hp.own (hp.nn (by omega))
      have HB := Lib.hid hp.bel
      rw [HPG.out] at q2
      have hln := pageB_len HL8.out
      rw [← HPG.out, cat_len HTL.out hfit] at hln
      have HDI : Hid (DI wr (some ⟨b, 0, none⟩) (64 * i) c (pageB l)) := Lib.hid (q2.di (64 * i) q1 (by rw [pageB_len HL8.out, hln]))
      clear hp q2 hln
      go_wp2_with fail
      refine (Try.unwrap _ HL8.out HDI.out).mono ?_
      rintro e w2 ⟨A, m, rfl, b1, x1⟩
      have B1 := Lib.hid b1
      have X1 := Lib.hid x1
      clear b1 x1
      go_wp2
      simp only [Exit.jump]
      go_ret2
      exact ⟨A, m, rfl, B1.out, (HB.out).trans ((X1.out).mono (HB.out).size)⟩
end Go.Proofs.Ytfblhcphbcghpaa
end

section
namespace Go.Proofs.Ytfblhcphbcghpaa
open Go.RowKit
set_option maxRecDepth 100000
def colB (q : List UInt8 × Int) : List UInt8 := encN q.1.length ++ (q.1 ++ [UInt8.ofNat q.2.toNat])
def colsB (cs : List (List UInt8 × Int)) : List UInt8 := cs.flatMap colB
def schB (cs : List (List UInt8 × Int)) : List UInt8 := encN cs.length ++ colsB cs
theorem colsB_next {cs : List (List UInt8 × Int)} {i : Nat} {q : List UInt8 × Int} (h : cs[i]? = some q) : colsB (cs.take (i + 1)) = colsB (cs.take i) ++ colB q := by
  unfold colsB
  rw [List.take_add_one, h]
  simp
theorem colsB_split {cs : List (List UInt8 × Int)} {i : Nat} {q : List UInt8 × Int} (h : cs[i]? = some q) : colsB cs = colsB (cs.take i) ++ (colB q ++ colsB (cs.drop (i + 1))) := by
  have hi := (List.getElem?_eq_some_iff.1 h).1
  have e : cs = cs.take i ++ (q :: cs.drop (i + 1)) := by
    have hd : cs.drop i = q :: cs.drop (i + 1) := by
      rw [List.drop_eq_getElem_cons hi]
      have := (List.getElem?_eq_some_iff.1 h).2
      rw [this]
    rw [← hd, List.take_append_drop]
  conv => lhs; rw [e]
  unfold colsB
  rw [List.flatMap_append, List.flatMap_cons]
def ColOk (q : List UInt8 × Int) : Prop := q.1.length ≤ 8 ∧ 0 ≤ q.2 ∧ q.2 < 256
theorem chkTo_all {cs : List (List UInt8 × Int)} : ∀ n, chkTo cs n = 0 → ∀ i, i < n → chkAt cs i = 0
  | 0, _, i, hi => by omega
  | n + 1, h, i, hi => by
    rw [chkTo] at h
    by_cases h0 : chkTo cs n = 0
    · rw [if_pos h0] at h
      by_cases hin : i = n
      · rw [hin]; exact h
      · exact chkTo_all n h0 i (by omega)
    · rw [if_neg h0] at h; exact absurd h h0
theorem chk_ok {cs : List (List UInt8 × Int)} (h : chk cs = 0) : 1 ≤ cs.length ∧ cs.length ≤ 8 ∧ ∀ (i : Nat) (q : List UInt8 × Int), cs[i]? = some q → ColOk q := by
  unfold chk at h
  by_cases hl : 1 ≤ cs.length ∧ cs.length ≤ 8
  · rw [if_pos hl] at h
    refine ⟨hl.1, hl.2, fun i q hq => ?_⟩
    have hi := (List.getElem?_eq_some_iff.1 hq).1
    have := chkTo_all _ h i hi
    unfold chkAt at this
    rw [chkAt_get hq] at this
    by_cases hn : isName q.1 = true
    · rw [if_pos hn] at this
      have hN := (isName_eq q.1).1 hn
      split at this
      · simp at this
      · split at this
        · rename_i h3
          exact ⟨hN.2.1, by omega, by omega⟩
        · simp at this
    · rw [if_neg hn] at this; simp at this
  · rw [if_neg hl] at h; simp at h
theorem cstep_col {l : List UInt8} {p : Nat} {q : List UInt8 × Int} {r : List UInt8} {cs : List (List UInt8 × Int)} (h : l.drop p = colB q ++ r) (hq : ColOk q) : cstep l ⟨p, 0, cs⟩ = ⟨p + (colB q).length, 0, cs ++ [q]⟩ := by
  obtain ⟨nm, k⟩ := q
  obtain ⟨h8, k0, k1⟩ := hq
  dsimp only at h8 k0 k1
  unfold colB at h
  rw [List.append_assoc, List.append_assoc] at h
  have hg : getN l p = ((nm.length : Int), (encN nm.length).length, 0) := getN_put h (by omega)
  have hn : Proofs.rnum l p 0 = ((nm.length : Int), p + (encN nm.length).length, 0) := rnum_ok hg
  have hd1 : l.drop (p + (encN nm.length).length) = nm ++ ([UInt8.ofNat k.toNat] ++ r) := by
    rw [← List.drop_drop, h, List.drop_left]
  have hlen : l.length = p + (encN nm.length).length + nm.length + 1 + r.length := by
    have h1 := congrArg List.length hd1
    simp only [List.length_drop, List.length_append, List.length_singleton] at h1
    omega
  have hd2 : l.drop (p + (encN nm.length).length + nm.length) = [UInt8.ofNat k.toNat] ++ r := by
    rw [← List.drop_drop, hd1, List.drop_left]
  have hx : l[p + (encN nm.length).length + nm.length]? = some (UInt8.ofNat k.toNat) := by
    have := congrArg (fun z => z[0]?) hd2
    simpa using this
  unfold cstep
  dsimp only
  rw [show rnum l p 0 = ((nm.length : Int), p + (encN nm.length).length, 0) from hn]
  dsimp only
  have ht : rtext l (p + (encN nm.length).length) 0 (nm.length : Int) = (nm, p + (encN nm.length).length + nm.length, 0) := by
    unfold rtext
    rw [if_pos rfl, if_pos (by rw [hlen]; omega), Int.toNat_natCast, hd1, List.take_left]
  rw [ht]
  dsimp only
  rw [rbyte_some hx]
  dsimp only
  have hk : ((UInt8.ofNat k.toNat).toNat : Int) = k := by rw [UInt8.toNat_ofNat']; omega
  rw [hk]
  unfold colB
  simp only [List.length_append, List.length_singleton]
  congr 1
  omega
theorem citer_cols {l : List UInt8} {p : Nat} {cs : List (List UInt8 × Int)} {r : List UInt8} (h : l.drop p = colsB cs ++ r) (hc : ∀ (i : Nat) (q : List UInt8 × Int), cs[i]? = some q → ColOk q) : ∀ i, i ≤ cs.length → citer l p i = ⟨p + (colsB (cs.take i)).length, 0, cs.take i⟩
  | 0, _ => by simp [citer, colsB]
  | i + 1, hi => by
    obtain ⟨q, hq⟩ : ∃ q, cs[i]? = some q := ⟨_, List.getElem?_eq_getElem (by omega)⟩
    rw [citer, citer_cols h hc i (by omega), cstep_col (q := q) (r := colsB (cs.drop (i + 1)) ++ r) (by rw [← List.drop_drop, h, colsB_split hq, List.append_assoc, List.drop_left, List.append_assoc]) (hc i q hq), colsB_next hq, List.length_append, Nat.add_assoc]
    rw [List.take_add_one, hq]
    rfl
theorem sget_sch {l : List UInt8} {p : Nat} {cs : List (List UInt8 × Int)} {r : List UInt8} (h : l.drop p = schB cs ++ r) (hc : chk cs = 0) (hp : p ≤ l.length) : sgetE l p = 0 ∧ sgetC l p = cs ∧ sgetN l p = (schB cs).length := by
  obtain ⟨h1, h8, hok⟩ := chk_ok hc
  unfold schB at h
  rw [List.append_assoc] at h
  have hn : rnum l p 0 = ((cs.length : Int), p + (encN cs.length).length, 0) := rnum_ok (getN_put h (by omega))
  have hd : l.drop (p + (encN cs.length).length) = colsB cs ++ r := by rw [← List.drop_drop, h, List.drop_left]
  have hci := citer_cols hd hok cs.length (Nat.le_refl _)
  rw [List.take_length] at hci
  have hE : sgetE l p = 0 := by
    rw [sget_end hp hn rfl rfl ⟨by omega, by omega⟩ (by dsimp only; rw [hci]), hci, hc]
  refine ⟨hE, ?_, ?_⟩
  · rw [sgetC_ok hn rfl hE, hci]
  · rw [sgetN_ok hn rfl hE, hci]
    unfold schB
    rw [List.length_append]
    dsimp only
    omega
end Go.Proofs.Ytfblhcphbcghpaa
end

section
namespace Go.Proofs.Ytfblhcphbcghpaa
open Go.RowKit
open Go.NR (wpList_app oper_app_str own_mono own_at)
set_option maxRecDepth 100000
theorem strCells_u8v (x : List UInt8) : Lib.strCells (strOf x) = x.map u8v := by
  unfold Lib.strCells strOf
  rfl
theorem BY.ob {w : World} {B b c n : Nat} {l : List UInt8} (h : BY w b l c) (hB : B ≤ b) (hl : l.length = n) (hn : n ≤ c) : OB w B (.slice (some ⟨b, 0, none⟩) n c) l := by
  obtain ⟨pad, h1, h2, h3⟩ := h
  subst hl
  refine ⟨by simp, .inr ⟨b, c, _, rfl, hB, h1, hn, h3, by simp; omega, ?_⟩⟩
  rw [Nat.mul_one]
  simp
theorem OB.mono {w : World} {B B' : Nat} {v : Value} {l : List UInt8} (h : OB w B v l) (hb : B' ≤ B) : OB w B' v l := own_mono h hb
theorem colB_le {q : List UInt8 × Int} (h : ColOk q) : (colB q).length ≤ 19 := by
  have := encF_len 10 q.1.length
  have := h.1
  unfold colB encN
  simp only [List.length_append, List.length_singleton]
  omega
theorem colsB_le {cs : List (List UInt8 × Int)} (h : ∀ (i : Nat) (q : List UInt8 × Int), cs[i]? = some q → ColOk q) : ∀ i, (colsB (cs.take i)).length ≤ 19 * i
  | 0 => by simp [colsB]
  | i + 1 => by
    have ih := colsB_le h i
    cases hq : cs[i]? with
    | none => rw [List.take_add_one, hq]; simp; omega
    | some q =>
      rw [colsB_next hq, List.length_append]
      have := colB_le (h i q hq)
      omega
structure BB (w : World) (l : List UInt8) (v : Value) (wr : World) : Prop where
  ob : OB wr w.heap.size v l
  be : Below w.heap.size w wr
theorem BB.grow {w w1 w2 : World} {l l' : List UInt8} {v v' : Value} (h : BB w l v w1) (hg : w1.grownBy w2 v.ownBlock) (ho : w2.ownsRow w.heap.size 5 1 v' (l.length + l'.length) (l.map u8v ++ l'.map u8v)) : BB w (l ++ l') v' w2 := by
  refine ⟨?_, h.be.grown hg h.be.size (fun k hk => ?_)⟩
  · unfold OB
    rw [List.length_append, List.map_append]
    exact ho
  · rcases h.ob.2 with ⟨rfl, _⟩ | ⟨g, cap, cur, rfl, hg, _⟩
    · simp [Value.ownBlock] at hk
    · simp [Value.ownBlock] at hk; omega
theorem BB.call {w w1 w2 : World} {l l' : List UInt8} {v v' : Value} (h : BB w l v w1) (hb : Below w1.heap.size w1 w2) (ho : OB w2 w1.heap.size v' l') : BB w l' v' w2 := ⟨ho.mono h.be.size, h.be.trans (hb.mono h.be.size)⟩
theorem BB.stay {w w1 w2 : World} {l : List UInt8} {v : Value} (h : BB w l v w1) (hb : Below w1.heap.size w1 w2) : BB w l v w2 := ⟨Go.NR.own_below h.ob hb, h.be.trans (hb.mono h.be.size)⟩
set_option maxHeartbeats 8000000 in
theorem Try.schPut (w : World) {A : Option Addr} {n c : Nat} {l : List UInt8} (hD : DI w A n c l) (hn1 : 0 < n) (hn : n ≤ 40000) {A2 : Option Addr} {n2 c2 : Nat} {cs : List (List UInt8 × Int)} (hC : CR w A2 n2 c2 cs) (hok : chk cs = 0) :
    Calls Try.prog 23 #[.slice A n c, .slice A2 n2 c2] w fun e w' => ∃ v, e = .returned (.tuple #[v, .int .i64 0]) ∧ BB w (l ++ schB cs) v w' := by
  obtain ⟨h1, h8, hco⟩ := chk_ok hok
  obtain ⟨b, o, rfl⟩ := hD.place hn1
  have hl := hD.len
  have hcl := hC.len
  have HL := Lib.hid hl
  have HC := Lib.hid hC
  have HCO := Lib.hid hco
  have HOK := Lib.hid hok
  have HX := Lib.hid (hD.srcX (Below.refl _ w))
  rw [hcl] at h1 h8
  have HCL := Lib.hid hcl
  clear hco hC hok hD hl hcl
  go_enter Try.func23, Try.ntmps23
  go_wp2_with fail
  refine (Try.clone ⟨b, o, none⟩ n c w (by omega) l HL.out HX.out).mono ?_
  rintro e w1 ⟨b1, c1, rfl, z1, z2, z3, z4⟩
  have H1 : Hid (BB w l (.slice (some ⟨b1, 0, none⟩) n c1) w1) := Lib.hid ⟨z3.ob z1 HL.out z2, z4⟩
  clear z1 z2 z3 z4
  go_wp2_with fail
  refine (Try.check w1 A2 n2 c2 cs (HC.out.below H1.out.be) (fun j q hq => by have := (HCO.out j q hq).1; omega)).mono ?_
  rintro e w2 ⟨rfl, hb2⟩
  rw [HOK.out]
  have H2 : Hid (BB w l (.slice (some ⟨b1, 0, none⟩) n c1) w2) := Lib.hid (H1.out.stay hb2)
  have D2 : Hid (DI w2 (some ⟨b1, 0, none⟩) n c1 l) := Lib.hid (by
    obtain ⟨A, c, e, h⟩ := H2.out.ob.di
    rw [HL.out] at e h
    cases e
    exact h)
  clear H1 hb2
  go_wp2_with fail
  refine (Try.put w2 D2.out (by omega) n2 (by omega)).mono ?_
  rintro e w3 ⟨v3, rfl, ho3, hb3⟩
  have H3 : Hid (BB w (l ++ encN n2 ++ colsB (cs.take 0)) v3 w3) := Lib.hid (by
    have := H2.out.call hb3 ho3
    simpa [colsB] using this)
  clear D2 H2 ho3 hb3
  go_wp2_with fail
  go_loopw [6, 25] (fun v t W => ∃ i : Nat, i ≤ n2 ∧ t = .int .i64 i ∧ Hid (BB w (l ++ encN n2 ++ colsB (cs.take i)) v W)) (fun _ t _ => n2 - (intOf t).toNat)
  case atStart => exact ⟨0, Nat.zero_le _, rfl, H3⟩
  case round =>
    rename World => W
    obtain ⟨i, hi, rfl, HB⟩ := hrel
    by_cases hlt : i < n2
    · have d1 : decide ((i : Int) < n2) = true := decide_eq_true (by omega)
      have d1' : decide (i < n2) = true := decide_eq_true hlt
      obtain ⟨q, hq⟩ : ∃ q, cs[i]? = some q := ⟨_, List.getElem?_eq_getElem (by rw [HCL.out]; exact hlt)⟩
      obtain ⟨A2b, e0, hq0, hq1⟩ := (HC.out.below HB.out.be).at' i q hq
      subst e0
      obtain ⟨m, hm⟩ : ∃ m, q.1.length = m := ⟨_, rfl⟩
      have hok := HCO.out i q hq
      have hql := hok.1
      rw [hm] at hql
      obtain ⟨X, hX⟩ : ∃ X, l ++ encN n2 ++ colsB (cs.take i) = X := ⟨_, rfl⟩
      have HXL : Hid (X.length ≤ 41000) := Lib.hid (by
        rw [← hX, List.length_append, List.length_append, HL.out]
        have := colsB_le HCO.out i
        have := encF_len 10 n2
        unfold encN
        omega)
      have HXN : Hid (l ++ encN n2 ++ colsB (cs.take (i + 1)) = X ++ encN m ++ q.1 ++ [UInt8.ofNat q.2.toNat]) := Lib.hid (by
        rw [colsB_next hq, ← List.append_assoc, hX]
        unfold colB
        rw [hm]
        simp only [List.append_assoc])
      have HQL : Hid (q.1.length ≤ 8) := Lib.hid hok.1
      have hk0 := hok.2.1
      have hk1 := hok.2.2
      rw [hX] at HB
      have H0 : Hid (BB w X u6 (W.alloc (.cells #[.string (strOf q.1), .int .i64 q.2] 103))) := Lib.hid (HB.out.stay ((Below.refl _ W).alloc (Nat.le_refl _) _))
      have hnew := heap_alloc_new W (.cells #[.string (strOf q.1), .int .i64 q.2] 103)
      have hs1 : (strOf q.1).size = m := by rw [strOf_size]; exact hm
      have u1 : IntKind.u64.wrap (m : Int) = (m : Int) := wrapu (by omega) (by omega)
      have u2 : IntKind.u8.wrap q.2 = q.2 := by rw [IntKind.wrap_u8]; omega
      have HQ1 : Hid (u8v (UInt8.ofNat q.2.toNat) = .int .u8 q.2) := Lib.hid (by rw [u8v_ofNat _ (by omega)]; congr 1; omega)
      clear hX hq hok HB
      go_wp2_with fail
      obtain ⟨wa, hwa⟩ : ∃ wa, W.alloc (.cells #[.string (strOf q.1), .int .i64 q.2] 103) = wa := ⟨_, rfl⟩
      obtain ⟨bx, hbx⟩ : ∃ bx, W.heap.size = bx := ⟨_, rfl⟩
      rw [hwa] at H0 hnew
      rw [hbx] at hnew
      rw [hwa, hbx]
      have V0 : wa.cell? ⟨bx, 0, none⟩ = some (.string (strOf q.1)) := cell_of_row wa bx 0 _ 103 _ hnew
      have V1 : wa.cell? ⟨bx, 1, none⟩ = some (.int .i64 q.2) := cell_of_row wa bx 1 _ 103 _ hnew
      have HQ0 := Lib.hid V0
      have HV1 := Lib.hid V1
      obtain ⟨AX, cX, hvX, hdX⟩ := H0.out.ob.di
      subst hvX
      have hxl : X.length ≤ 41000 := HXL.out
      have DL := Lib.hid (hdX.below (Below.refl _ wa).drew)
      clear hwa hbx hnew V0 V1 hdX
      refine wp_region_noPanic ?_
      refine wp_region_held_drew (S := (fun W => W.cell? ⟨bx, 0, none⟩ = some (.string (strOf q.1)))) (by kernel_rfl) ?_ (fun hHeld => ?_)
      · exact HQ0.out
      refine wpAnyH_take (i := 0) (oi := { dst := some 29, op := Op.move (Operand.tmp 6), type := 50, pos := "schema.go:118", after := #[], guard := none }) (v := ?_) rfl (by kernel_rfl) (by kernel_rfl) (by kernel_rfl) (fun _ _ _ h => h) (Or.inl ⟨by rfl, ?_⟩) (by assumption) ?_
      rotate_left
      · (intro w hSw; (try dsimp only at hSw); go_simp; try with_reducible rfl)
      try simp only [Act.put, List.setIfInBounds_toArray, List.set_cons_zero, List.set_cons_succ]
      refine wpAnyH_take (i := 1) (oi := { dst := some 30, op := Op.fieldAddr 103 (Operand.tmp 9) 0, type := 0, pos := "schema.go:118", after := #[], guard := none }) (v := ?_) rfl (by kernel_rfl) (by kernel_rfl) (by kernel_rfl) (fun _ _ _ h => h) (Or.inl ⟨by rfl, ?_⟩) (by assumption) ?_
      rotate_left
      · (intro w hSw; (try dsimp only at hSw); go_simp; try with_reducible rfl)
      try simp only [Act.put, List.setIfInBounds_toArray, List.set_cons_zero, List.set_cons_succ]
      refine wpAnyH_take (i := 2) (oi := { dst := some 31, op := Op.load 9 (Operand.tmp 30), type := 9, pos := "schema.go:118", after := #[{ on := 1, ground := Ground.data }], guard := none }) (v := ?_) rfl (by kernel_rfl) (by kernel_rfl) (by kernel_rfl) (fun _ _ _ h => h) (Or.inl ⟨by rfl, ?_⟩) (by assumption) ?_
      rotate_left
      · (intro w hSw; (try dsimp only at hSw); go_simp; try with_reducible rfl)
      try simp only [Act.put, List.setIfInBounds_toArray, List.set_cons_zero, List.set_cons_succ]
      refine wpAnyH_take (i := 3) (oi := { dst := some 32, op := Op.call { callee := Callee.builtin Builtin.len, args := #[Operand.tmp 31], argTypes := #[9] }, type := 3, pos := "schema.go:118", after := #[{ on := 2, ground := Ground.data }], guard := none }) (v := ?_) rfl (by kernel_rfl) (by kernel_rfl) (by kernel_rfl) (fun _ _ _ h => h) (Or.inl ⟨by rfl, ?_⟩) (by assumption) ?_
      rotate_left
      · (intro w hSw; (try dsimp only at hSw); go_simp; try with_reducible rfl)
      try simp only [Act.put, List.setIfInBounds_toArray, List.set_cons_zero, List.set_cons_succ]
      refine wpAnyH_take (i := 4) (oi := { dst := some 33, op := Op.convert 3 23 (Operand.tmp 32), type := 23, pos := "schema.go:118", after := #[{ on := 3, ground := Ground.data }], guard := none }) (v := ?_) rfl (by kernel_rfl) (by kernel_rfl) (by kernel_rfl) (fun _ _ _ h => h) (Or.inl ⟨by rfl, ?_⟩) (by assumption) ?_
      rotate_left
      · (intro w hSw; (try dsimp only at hSw); go_simp; try with_reducible rfl)
      try simp only [Act.put, List.setIfInBounds_toArray, List.set_cons_zero, List.set_cons_succ]
      refine wpAnyH_take (i := 6) (oi := { dst := some 35, op := Op.fieldAddr 103 (Operand.tmp 9) 0, type := 0, pos := "schema.go:118", after := #[], guard := none }) (v := ?_) rfl (by kernel_rfl) (by kernel_rfl) (by kernel_rfl) (fun _ _ _ h => h) (Or.inl ⟨by rfl, ?_⟩) (by assumption) ?_
      rotate_left
      · (intro w hSw; (try dsimp only at hSw); go_simp; try with_reducible rfl)
      try simp only [Act.put, List.setIfInBounds_toArray, List.set_cons_zero, List.set_cons_succ]
      refine wpAnyH_take (i := 7) (oi := { dst := some 36, op := Op.load 9 (Operand.tmp 35), type := 9, pos := "schema.go:118", after := #[{ on := 6, ground := Ground.data }], guard := none }) (v := ?_) rfl (by kernel_rfl) (by kernel_rfl) (by kernel_rfl) (fun _ _ _ h => h) (Or.inl ⟨by rfl, ?_⟩) (by assumption) ?_
      rotate_left
      · (intro w hSw; (try dsimp only at hSw); go_simp; try with_reducible rfl)
      try simp only [Act.put, List.setIfInBounds_toArray, List.set_cons_zero, List.set_cons_succ]
      refine wpAnyH_ready (rs := [5]) (by kernel_rfl) (by simp) ?_
      refine AllReadyH.cons (o := { dst := some 34, op := Op.call { callee := Callee.value (Operand.func 24), args := #[Operand.tmp 29, Operand.tmp 33], argTypes := #[50, 23] }, type := 50, pos := "schema.go:118", after := #[{ on := 0, ground := Ground.data }, { on := 4, ground := Ground.data }], guard := none }) rfl (fun K hK => ?_) AllReadyH.nil
      go_simp
      refine (Try.put _ DL.out (by omega) m (by omega)).mono ?_
      rintro x3 w3 ⟨v3, rfl, ho3, hb3⟩
      have B3 : Hid (BB wa (X ++ encN m) v3 w3) := Lib.hid ⟨ho3, (Below.refl _ wa).drew.trans hb3⟩
      clear ho3 hb3
      refine hK.out _ _ ?_ (fun hHeld => ?_)
      · exact cellW HQ0.out B3.out.be
      clear hK K
      try simp only [Act.put, List.setIfInBounds_toArray, List.set_cons_zero, List.set_cons_succ]
      refine wpAnyH_ready (rs := [8]) (by kernel_rfl) (by simp) ?_
      refine AllReadyH.cons (o := { dst := some 37, op := Op.call { callee := Callee.builtin Builtin.append, args := #[Operand.tmp 34, Operand.tmp 36], argTypes := #[50, 9] }, type := 50, pos := "schema.go:118", after := #[{ on := 5, ground := Ground.data }, { on := 7, ground := Ground.data }, { on := 5, ground := Ground.chain }], guard := none }) rfl (fun K hK => ?_) AllReadyH.nil
      skip
      refine oper_app_str Try.E50 Try.underlying9 (.tmp 34) (.tmp 36) rfl wa.heap.size v3 (X ++ encN m).length ((X ++ encN m).map u8v) rfl B3.out.ob (strOf q.1) rfl (by rw [strOf_size, List.length_append]; have := HXL.out; have := HQL.out; have := encF_len 10 m; unfold encN; omega) B3.out.be.size ?_
      intro v4 w4 ho4 hg4
      have B4 : Hid (BB wa (X ++ encN m ++ q.1) v4 w4) := Lib.hid (B3.out.grow hg4 (by rw [strOf_size, strCells_u8v] at ho4; exact ho4))
      clear ho4 hg4
      refine hK.out _ _ ?_ (fun hHeld => ?_)
      · exact cellW HQ0.out B4.out.be
      clear hK K
      try simp only [Act.put, List.setIfInBounds_toArray, List.set_cons_zero, List.set_cons_succ]
      refine wpAnyH_take (i := 9) (oi := { dst := some 6, op := Op.assign (Operand.tmp 37), type := 50, pos := "schema.go:118", after := #[{ on := 8, ground := Ground.data }, { on := 8, ground := Ground.chain }, { on := 0, ground := Ground.phase }, { on := 1, ground := Ground.phase }, { on := 2, ground := Ground.phase }, { on := 3, ground := Ground.phase }, { on := 4, ground := Ground.phase }, { on := 5, ground := Ground.phase }, { on := 6, ground := Ground.phase }, { on := 7, ground := Ground.phase }, { on := 8, ground := Ground.phase }], guard := none }) (v := ?_) rfl (by kernel_rfl) (by kernel_rfl) (by kernel_rfl) (fun _ _ _ h => h) (Or.inl ⟨by rfl, ?_⟩) (by assumption) ?_
      rotate_left
      · (intro w hSw; (try dsimp only at hSw); go_simp; try with_reducible rfl)
      try simp only [Act.put, List.setIfInBounds_toArray, List.set_cons_zero, List.set_cons_succ]
      refine wpAnyH_done (by kernel_rfl) ?_ _
      refine NoPanic.normal ?_
      have V4 := cellW HV1.out B4.out.be
      obtain ⟨X4, hX4⟩ : ∃ Y, X ++ encN m ++ q.1 = Y := ⟨_, rfl⟩
      have HX4 : Hid (X4.length ≤ 50000) := Lib.hid (by rw [← hX4, List.length_append, List.length_append]; have := HXL.out; have := HQL.out; have := encF_len 10 m; unfold encN; omega)
      rw [hX4] at B4 HXN
      have hy1 : ∀ j u, ([Value.int .u8 q.2] : List Value)[j]? = some u → (w4.alloc (.cells #[.int .u8 q.2] 5)).cell? ⟨w4.heap.size, j, none⟩ = some u := fun j u hj => by
        rw [cell_of_row _ _ j _ 5 _ (heap_alloc_new w4 _), ← hj]
        simp
      have HY1 := Lib.hid hy1
      have B5 : Hid (BB wa X4 v4 (w4.alloc (.cells #[.int .u8 q.2] 5))) := Lib.hid (B4.out.stay ((Below.refl _ w4).alloc (Nat.le_refl _) _))
      clear hX4 hy1 HV1 HQ0 DL B3
      go_wp2_with (refine wpList_app Try.E50 rfl (.tmp 38) (.tmp 42) rfl wa.heap.size v4 X4.length (X4.map u8v) rfl B5.out.ob w4.heap.size 1 1 [.int .u8 q.2] rfl rfl HY1.out (fun u hu => by simp at hu; subst hu; rfl) (by have := HX4.out; omega) B5.out.be.size ?_)
      intro v5 w5 ho5 hg5
      have HN : Hid (BB w (l ++ encN n2 ++ colsB (cs.take (i + 1))) v5 w5) := Lib.hid (by
        have h5 : BB wa (X4 ++ [UInt8.ofNat q.2.toNat]) v5 w5 := B5.out.grow hg5 (by rw [List.map_singleton, HQ1.out]; exact ho5)
        rw [HXN.out]
        exact H0.out.call h5.be h5.ob)
      clear ho5 hg5
      go_wp2_with fail
      exact ⟨⟨i + 1, by omega, rfl, HN⟩, by simp [intOf]; omega⟩
    · obtain rfl : i = n2 := by omega
      have d1 : decide ((i : Int) < (i : Int)) = false := by simp
      have d1' : decide (i < i) = false := by simp
      have HE : Hid (BB w (l ++ schB cs) u6 W) := Lib.hid (by
        have := HB.out
        rw [← HCL.out, List.take_length, List.append_assoc] at this
        exact this)
      go_wp2_with fail
      go_ret2
      exact ⟨_, rfl, HE.out⟩
end Go.Proofs.Ytfblhcphbcghpaa
end

section
namespace Go.Proofs.Ytfblhcphbcghpaa
open Go.RowKit
set_option maxRecDepth 100000
def footB (e : Nat) (cs : List (List UInt8 × Int)) : List UInt8 := encN e ++ schB cs ++ encN 0
theorem encN_in (e : Nat) : 1 ≤ (encN e).length ∧ (encN e).length ≤ 10 := by
  refine ⟨?_, encF_len 10 e⟩
  unfold encN
  by_cases hu : e < 128
  · rw [encF_last 9 e hu]; simp
  · rw [encF_more 9 e hu]; simp
theorem schB_le {cs : List (List UInt8 × Int)} (h : chk cs = 0) : (schB cs).length ≤ 170 := by
  obtain ⟨h1, h8, hc⟩ := chk_ok h
  have := colsB_le hc cs.length
  rw [List.take_length] at this
  have := encN_in cs.length
  unfold schB
  rw [List.length_append]
  omega
theorem footB_le {e : Nat} {cs : List (List UInt8 × Int)} (h : chk cs = 0) : (footB e cs).length ≤ 200 := by
  have := schB_le h
  have := encN_in e
  have := encN_in 0
  unfold footB
  rw [List.length_append, List.length_append]
  omega
set_option maxHeartbeats 8000000 in
theorem Try.footPut (w : World) (e : Nat) (he : e < 18446744073709551616) (he0 : e ≠ 0) {A2 : Option Addr} {n2 c2 : Nat} {cs : List (List UInt8 × Int)} (hC : CR w A2 n2 c2 cs) (hok : chk cs = 0) :
    Calls Try.prog 7 #[.agg #[.int .u64 e, .slice A2 n2 c2, .slice none 0 0]] w fun x w' => ∃ v, x = .returned (.tuple #[v, .int .i64 0]) ∧ BB w (footB e cs) v w' := by
  have HE := Lib.hid he
  have HC := Lib.hid hC
  have HOK := Lib.hid hok
  have HEL := Lib.hid (encN_in e)
  have d0 : ((e : Int) == 0) = false := by simpa using he0
  have d0' : decide ((e : Int) = 0) = false := decide_eq_false (by omega)
  have hb := (Below.refl _ w).alloc (Nat.le_refl _) (.cells #[.int .u64 e, .slice A2 n2 c2, .slice none 0 0] 48)
  have hnew := heap_alloc_new w (.cells #[.int .u64 e, .slice A2 n2 c2, .slice none 0 0] 48)
  clear hC hok he he0
  go_enter Try.func7, Try.ntmps7
  go_upto_region 3 with fail
  obtain ⟨wa, hwa⟩ : ∃ wa, w.alloc (.cells #[.int .u64 e, .slice A2 n2 c2, .slice none 0 0] 48) = wa := ⟨_, rfl⟩
  obtain ⟨bx, hbx⟩ : ∃ bx, w.heap.size = bx := ⟨_, rfl⟩
  rw [hwa] at hb hnew
  rw [hbx] at hnew
  rw [hwa, hbx]
  have V0 := Lib.hid (cell_of_row wa bx 0 _ 48 _ hnew)
  have V1 := Lib.hid (cell_of_row wa bx 1 _ 48 _ hnew)
  have V2 := Lib.hid (cell_of_row wa bx 2 _ 48 _ hnew)
  have WB := Lib.hid hb
  clear hwa hb hnew d0 d0'
  refine wp_region_noPanic ?_
  refine wp_region_held_drew (S := (fun W => W.cell? ⟨bx, 0, none⟩ = some (.int .u64 e) ∧ W.cell? ⟨bx, 1, none⟩ = some (.slice A2 n2 c2))) (by kernel_rfl) ?_ (fun hHeld => ?_)
  · exact ⟨V0.out, V1.out⟩
  refine wpAnyH_take (i := 0) (oi := { dst := some 14, op := Op.fieldAddr 48 (Operand.tmp 1) 0, type := 0, pos := "foot.go:75", after := #[], guard := none }) (v := ?_) rfl (by kernel_rfl) (by kernel_rfl) (by kernel_rfl) (fun _ _ _ h => h) (Or.inl ⟨by rfl, ?_⟩) (by assumption) ?_
  rotate_left
  · (intro w hSw; (try dsimp only at hSw); go_simp; try with_reducible rfl)
  try simp only [Act.put, List.setIfInBounds_toArray, List.set_cons_zero, List.set_cons_succ]
  refine wpAnyH_take (i := 1) (oi := { dst := some 15, op := Op.load 23 (Operand.tmp 14), type := 23, pos := "foot.go:75", after := #[{ on := 0, ground := Ground.data }], guard := none }) (v := ?_) rfl (by kernel_rfl) (by kernel_rfl) (by kernel_rfl) (fun _ _ _ h => h) (Or.inl ⟨by rfl, ?_⟩) (by assumption) ?_
  rotate_left
  · (intro w hSw; (try dsimp only at hSw); go_simp; try with_reducible rfl)
  try simp only [Act.put, List.setIfInBounds_toArray, List.set_cons_zero, List.set_cons_succ]
  refine wpAnyH_take (i := 3) (oi := { dst := some 17, op := Op.fieldAddr 48 (Operand.tmp 1) 1, type := 0, pos := "foot.go:75", after := #[], guard := none }) (v := ?_) rfl (by kernel_rfl) (by kernel_rfl) (by kernel_rfl) (fun _ _ _ h => h) (Or.inl ⟨by rfl, ?_⟩) (by assumption) ?_
  rotate_left
  · (intro w hSw; (try dsimp only at hSw); go_simp; try with_reducible rfl)
  try simp only [Act.put, List.setIfInBounds_toArray, List.set_cons_zero, List.set_cons_succ]
  refine wpAnyH_take (i := 4) (oi := { dst := some 18, op := Op.load 45 (Operand.tmp 17), type := 45, pos := "foot.go:75", after := #[{ on := 3, ground := Ground.data }], guard := none }) (v := ?_) rfl (by kernel_rfl) (by kernel_rfl) (by kernel_rfl) (fun _ _ _ h => h) (Or.inl ⟨by rfl, ?_⟩) (by assumption) ?_
  rotate_left
  · (intro w hSw; (try dsimp only at hSw); go_simp; try with_reducible rfl)
  try simp only [Act.put, List.setIfInBounds_toArray, List.set_cons_zero, List.set_cons_succ]
  refine wpAnyH_ready (rs := [2]) (by kernel_rfl) (by simp) ?_
  refine AllReadyH.cons (o := { dst := some 16, op := Op.call { callee := Callee.value (Operand.func 24), args := #[Operand.const (Value.slice none 0 0), Operand.tmp 15], argTypes := #[50, 23] }, type := 50, pos := "foot.go:75", after := #[{ on := 1, ground := Ground.data }], guard := none }) rfl (fun K hK => ?_) AllReadyH.nil
  go_simp
  refine (Try.put _ (di_nil _) (by omega) e HE.out).mono ?_
  rintro x3 w3 ⟨v3, rfl, ho3, hb3⟩
  rw [List.nil_append] at ho3
  have B3 : Hid (BB wa (encN e) v3 w3) := Lib.hid ⟨ho3, (Below.refl _ wa).drew.trans hb3⟩
  have HC3 : Hid (CR w3 A2 n2 c2 cs) := Lib.hid (HC.out.below (WB.out.trans (B3.out.be.mono WB.out.size)))
  obtain ⟨A3, c3, hv3, hd3⟩ := ho3.di
  subst hv3
  have D3 := Lib.hid hd3
  clear ho3 hb3 hd3
  refine hK.out _ _ ?_ (fun hHeld => ?_)
  · exact ⟨cellW V0.out B3.out.be, cellW V1.out B3.out.be⟩
  clear hK K
  try simp only [Act.put, List.setIfInBounds_toArray, List.set_cons_zero, List.set_cons_succ]
  refine wpAnyH_ready (rs := [5]) (by kernel_rfl) (by simp) ?_
  refine AllReadyH.cons (o := { dst := some 19, op := Op.call { callee := Callee.value (Operand.func 23), args := #[Operand.tmp 16, Operand.tmp 18], argTypes := #[50, 45] }, type := 52, pos := "foot.go:75", after := #[{ on := 2, ground := Ground.data }, { on := 4, ground := Ground.data }, { on := 2, ground := Ground.chain }], guard := none }) rfl (fun K hK => ?_) AllReadyH.nil
  go_simp
  refine (Try.schPut _ D3.out HEL.out.1 (by have := HEL.out; omega) HC3.out HOK.out).mono ?_
  rintro x4 w4 ⟨v4, rfl, h4⟩
  have B4 : Hid (BB wa (encN e ++ schB cs) v4 w4) := Lib.hid (B3.out.call h4.be h4.ob)
  clear h4
  refine hK.out _ _ ?_ (fun hHeld => ?_)
  · exact ⟨cellW V0.out B4.out.be, cellW V1.out B4.out.be⟩
  clear hK K
  try simp only [Act.put, List.setIfInBounds_toArray, List.set_cons_zero, List.set_cons_succ]
  refine wpAnyH_take (i := 6) (oi := { dst := some 13, op := Op.move (Operand.tmp 19), type := 52, pos := "foot.go:75", after := #[{ on := 5, ground := Ground.data }], guard := none }) (v := ?_) rfl (by kernel_rfl) (by kernel_rfl) (by kernel_rfl) (fun _ _ _ h => h) (Or.inl ⟨by rfl, ?_⟩) (by assumption) ?_
  rotate_left
  · (intro w hSw; (try dsimp only at hSw); go_simp; try with_reducible rfl)
  try simp only [Act.put, List.setIfInBounds_toArray, List.set_cons_zero, List.set_cons_succ]
  refine wpAnyH_take (i := 7) (oi := { dst := some 20, op := Op.extract (Operand.tmp 13) 0, type := 50, pos := "foot.go:75", after := #[{ on := 6, ground := Ground.data }], guard := none }) (v := ?_) rfl (by kernel_rfl) (by kernel_rfl) (by kernel_rfl) (fun _ _ _ h => h) (Or.inl ⟨by rfl, ?_⟩) (by assumption) ?_
  rotate_left
  · (intro w hSw; (try dsimp only at hSw); go_simp; try with_reducible rfl)
  try simp only [Act.put, List.setIfInBounds_toArray, List.set_cons_zero, List.set_cons_succ]
  refine wpAnyH_take (i := 8) (oi := { dst := some 21, op := Op.extract (Operand.tmp 13) 1, type := 51, pos := "foot.go:75", after := #[{ on := 6, ground := Ground.data }, { on := 9, ground := Ground.gcOnly Departure.lateStores }], guard := none }) (v := ?_) rfl (by kernel_rfl) (by kernel_rfl) (by kernel_rfl) (fun _ _ _ h => h) (Or.inl ⟨by rfl, ?_⟩) (by assumption) ?_
  rotate_left
  · (intro w hSw; (try dsimp only at hSw); go_simp; try with_reducible rfl)
  try simp only [Act.put, List.setIfInBounds_toArray, List.set_cons_zero, List.set_cons_succ]
  refine wpAnyH_take (i := 9) (oi := { dst := some 4, op := Op.assign (Operand.tmp 20), type := 50, pos := "foot.go:75", after := #[{ on := 7, ground := Ground.data }, { on := 5, ground := Ground.chain }, { on := 0, ground := Ground.phase }, { on := 1, ground := Ground.phase }, { on := 2, ground := Ground.phase }, { on := 3, ground := Ground.phase }, { on := 4, ground := Ground.phase }, { on := 5, ground := Ground.phase }, { on := 6, ground := Ground.phase }, { on := 7, ground := Ground.phase }, { on := 8, ground := Ground.textOnly Departure.lateStores }], guard := none }) (v := ?_) rfl (by kernel_rfl) (by kernel_rfl) (by kernel_rfl) (fun _ _ _ h => h) (Or.inl ⟨by rfl, ?_⟩) (by assumption) ?_
  rotate_left
  · (intro w hSw; (try dsimp only at hSw); go_simp; try with_reducible rfl)
  try simp only [Act.put, List.setIfInBounds_toArray, List.set_cons_zero, List.set_cons_succ]
  refine wpAnyH_take (i := 10) (oi := { dst := some 5, op := Op.assign (Operand.tmp 21), type := 51, pos := "foot.go:75", after := #[{ on := 8, ground := Ground.data }, { on := 9, ground := Ground.chain }, { on := 0, ground := Ground.phase }, { on := 1, ground := Ground.phase }, { on := 2, ground := Ground.phase }, { on := 3, ground := Ground.phase }, { on := 4, ground := Ground.phase }, { on := 5, ground := Ground.phase }, { on := 6, ground := Ground.phase }, { on := 7, ground := Ground.phase }, { on := 8, ground := Ground.phase }, { on := 9, ground := Ground.phase }], guard := none }) (v := ?_) rfl (by kernel_rfl) (by kernel_rfl) (by kernel_rfl) (fun _ _ _ h => h) (Or.inl ⟨by rfl, ?_⟩) (by assumption) ?_
  rotate_left
  · (intro w hSw; (try dsimp only at hSw); go_simp; try with_reducible rfl)
  try simp only [Act.put, List.setIfInBounds_toArray, List.set_cons_zero, List.set_cons_succ]
  refine wpAnyH_done (by kernel_rfl) ?_ _
  refine NoPanic.normal ?_
  have C2 := cellW V2.out B4.out.be
  obtain ⟨A4, c4, hv4, hd4⟩ := B4.out.ob.di
  subst hv4
  obtain ⟨X4, hX4⟩ : ∃ Y, encN e ++ schB cs = Y := ⟨_, rfl⟩
  have hx4 : X4.length ≤ 180 := by
    have := schB_le HOK.out
    have := HEL.out
    rw [← hX4, List.length_append]
    omega
  have HX5 : Hid (footB e cs = X4 ++ encN 0) := Lib.hid (by unfold footB; rw [hX4])
  rw [hX4] at hd4 B4
  rw [hX4]
  have D4 := Lib.hid hd4
  have HW := Lib.hid (WB.out.trans (B4.out.be.mono WB.out.size))
  clear hX4 hd4 hHeld V0 V1 D3 B3
  go_wp2_with fail
  refine (Try.put w4 D4.out (by omega) 0 (by omega)).mono ?_
  rintro x w5 ⟨v5, rfl, ho5, hb5⟩
  have B5 : Hid (BB w (X4 ++ encN 0) v5 w5) := Lib.hid ⟨ho5.mono HW.out.size, HW.out.trans (hb5.mono HW.out.size)⟩
  have C5 := cellW C2 hb5
  obtain ⟨A5, c5, hv5, hd5⟩ := B5.out.ob.di
  subst hv5
  have hlf := footB_le (e := e) HOK.out
  rw [HX5.out] at hlf
  obtain ⟨m, hm⟩ : ∃ m, (X4 ++ encN 0).length = m := ⟨_, rfl⟩
  rw [hm] at hlf B5
  rw [hm]
  clear ho5 hb5 hd5 C2 D4 HW B4 hm
  go_wp2_with fail
  go_loop [4, 38] (fun v t => v = .slice A5 m c5 ∧ t = .int .i64 0) (fun _ _ => 0)
  case atStart => exact ⟨rfl, rfl⟩
  case round =>
    obtain ⟨rfl, rfl⟩ := hrel
    go_wp2_with fail
    go_ret2
    refine ⟨_, rfl, ?_⟩
    rw [HX5.out]
    exact B5.out
end Go.Proofs.Ytfblhcphbcghpaa
end

section
namespace Go.Proofs.Ytfblhcphbcghpaa
open Go.RowKit
set_option maxRecDepth 100000
set_option maxHeartbeats 4000000 in
theorem Try.rofS {W w : World} {b : Nat} {A : Option Addr} {n c : Nat} {l : List UInt8} {f : Int} {p : Nat} (h : RdIn W w b A n c l f p 0) {cs : List (List UInt8 × Int)} {k : Nat} (hs : sgetE l p = 0 ∧ sgetC l p = cs ∧ sgetN l p = (k : Nat)) (hk : p + k ≤ n) :
    Calls Try.prog 33 #[.pointer (some ⟨b, 0, none⟩), .func (.func 34) #[] #[]] w fun y w' => ∃ v m, y = .returned v ∧ w'.ownsRow w.heap.size 103 2 v m (flat cs) ∧ m ≤ 8 ∧ Rd w b A n c f ((p + k : Nat) : Int) 0 w' := by
  have h3 := h.rb.c3
  have h2 := h.rb.c2
  have h0 := h.rb.c0
  have H0 := Lib.hid h0
  have H2 := Lib.hid h2
  have HB := Lib.hid h
  have HE : Hid (sgetN l p = (k : Nat) ∧ sgetE l p = 0 ∧ sgetC l p = cs) := Lib.hid ⟨hs.2.2, hs.1, hs.2.1⟩
  have hn := h.hn
  clear hs h
  obtain ⟨q, hq⟩ : ∃ q, p + k = q := ⟨_, rfl⟩
  rw [hq] at hk ⊢
  go_enter Try.func33, Try.ntmps33
  go_wp2_with fail
  refine wp_region_noPanic ?_
  refine wp_region_held_drew (S := (fun W => W.cell? ⟨b, 0, none⟩ = some (.slice A n c) ∧ W.cell? ⟨b, 2, none⟩ = some (.int .i64 p))) (by kernel_rfl) ?_ (fun hHeld => ?_)
  · exact ⟨h0, h2⟩
  refine wpAnyH_take (i := 0) (oi := { dst := some 16, op := Op.move (Operand.tmp 1), type := 95, pos := "read.go:89", after := #[], guard := none }) (v := ?_) rfl (by kernel_rfl) (by kernel_rfl) (by kernel_rfl) (fun _ _ _ h => h) (Or.inl ⟨by rfl, ?_⟩) (by assumption) ?_
  rotate_left
  · (intro w hSw; (try dsimp only at hSw); go_simp; try with_reducible rfl)
  try simp only [Act.put, List.setIfInBounds_toArray, List.set_cons_zero, List.set_cons_succ]
  refine wpAnyH_take (i := 1) (oi := { dst := some 17, op := Op.move (Operand.tmp 0), type := 90, pos := "read.go:89", after := #[], guard := none }) (v := ?_) rfl (by kernel_rfl) (by kernel_rfl) (by kernel_rfl) (fun _ _ _ h => h) (Or.inl ⟨by rfl, ?_⟩) (by assumption) ?_
  rotate_left
  · (intro w hSw; (try dsimp only at hSw); go_simp; try with_reducible rfl)
  try simp only [Act.put, List.setIfInBounds_toArray, List.set_cons_zero, List.set_cons_succ]
  refine wpAnyH_take (i := 2) (oi := { dst := some 18, op := Op.nilCheck (Operand.tmp 17), type := 0, pos := "read.go:89", after := #[{ on := 1, ground := Ground.data }], guard := none }) (v := ?_) rfl (by kernel_rfl) (by kernel_rfl) (by kernel_rfl) (fun _ _ _ h => h) (Or.inl ⟨by rfl, ?_⟩) (by assumption) ?_
  rotate_left
  · (intro w hSw; (try dsimp only at hSw); go_simp; try with_reducible rfl)
  try simp only [Act.put, List.setIfInBounds_toArray, List.set_cons_zero, List.set_cons_succ]
  refine wpAnyH_take (i := 3) (oi := { dst := some 19, op := Op.fieldAddr 138 (Operand.tmp 18) 0, type := 0, pos := "read.go:89", after := #[{ on := 2, ground := Ground.data }], guard := none }) (v := ?_) rfl (by kernel_rfl) (by kernel_rfl) (by kernel_rfl) (fun _ _ _ h => h) (Or.inl ⟨by rfl, ?_⟩) (by assumption) ?_
  rotate_left
  · (intro w hSw; (try dsimp only at hSw); go_simp; try with_reducible rfl)
  try simp only [Act.put, List.setIfInBounds_toArray, List.set_cons_zero, List.set_cons_succ]
  refine wpAnyH_take (i := 4) (oi := { dst := some 20, op := Op.load 50 (Operand.tmp 19), type := 50, pos := "read.go:89", after := #[{ on := 3, ground := Ground.data }], guard := none }) (v := ?_) rfl (by kernel_rfl) (by kernel_rfl) (by kernel_rfl) (fun _ _ _ h => h) (Or.inl ⟨by rfl, ?_⟩) (by assumption) ?_
  rotate_left
  · (intro w hSw; (try dsimp only at hSw); go_simp; try with_reducible rfl)
  try simp only [Act.put, List.setIfInBounds_toArray, List.set_cons_zero, List.set_cons_succ]
  refine wpAnyH_take (i := 5) (oi := { dst := some 21, op := Op.move (Operand.tmp 0), type := 90, pos := "read.go:89", after := #[], guard := none }) (v := ?_) rfl (by kernel_rfl) (by kernel_rfl) (by kernel_rfl) (fun _ _ _ h => h) (Or.inl ⟨by rfl, ?_⟩) (by assumption) ?_
  rotate_left
  · (intro w hSw; (try dsimp only at hSw); go_simp; try with_reducible rfl)
  try simp only [Act.put, List.setIfInBounds_toArray, List.set_cons_zero, List.set_cons_succ]
  refine wpAnyH_take (i := 6) (oi := { dst := some 22, op := Op.nilCheck (Operand.tmp 21), type := 0, pos := "read.go:89", after := #[{ on := 5, ground := Ground.data }], guard := none }) (v := ?_) rfl (by kernel_rfl) (by kernel_rfl) (by kernel_rfl) (fun _ _ _ h => h) (Or.inl ⟨by rfl, ?_⟩) (by assumption) ?_
  rotate_left
  · (intro w hSw; (try dsimp only at hSw); go_simp; try with_reducible rfl)
  try simp only [Act.put, List.setIfInBounds_toArray, List.set_cons_zero, List.set_cons_succ]
  refine wpAnyH_take (i := 7) (oi := { dst := some 23, op := Op.fieldAddr 138 (Operand.tmp 22) 2, type := 0, pos := "read.go:89", after := #[{ on := 6, ground := Ground.data }], guard := none }) (v := ?_) rfl (by kernel_rfl) (by kernel_rfl) (by kernel_rfl) (fun _ _ _ h => h) (Or.inl ⟨by rfl, ?_⟩) (by assumption) ?_
  rotate_left
  · (intro w hSw; (try dsimp only at hSw); go_simp; try with_reducible rfl)
  try simp only [Act.put, List.setIfInBounds_toArray, List.set_cons_zero, List.set_cons_succ]
  refine wpAnyH_take (i := 8) (oi := { dst := some 24, op := Op.load 3 (Operand.tmp 23), type := 3, pos := "read.go:89", after := #[{ on := 7, ground := Ground.data }], guard := none }) (v := ?_) rfl (by kernel_rfl) (by kernel_rfl) (by kernel_rfl) (fun _ _ _ h => h) (Or.inl ⟨by rfl, ?_⟩) (by assumption) ?_
  rotate_left
  · (intro w hSw; (try dsimp only at hSw); go_simp; try with_reducible rfl)
  try simp only [Act.put, List.setIfInBounds_toArray, List.set_cons_zero, List.set_cons_succ]
  refine wpAnyH_ready (rs := [9]) (by kernel_rfl) (by simp) ?_
  refine AllReadyH.cons (o := { dst := some 25, op := Op.call { callee := Callee.value (Operand.tmp 16), args := #[Operand.tmp 20, Operand.tmp 24], argTypes := #[50, 3] }, type := 142, pos := "read.go:89", after := #[{ on := 0, ground := Ground.data }, { on := 4, ground := Ground.data }, { on := 8, ground := Ground.data }], guard := none }) rfl (fun K hK => ?_) AllReadyH.nil
  go_simp
  refine (Try.getS _ (HB.out.dat.below ((Below.refl _ w).drew)) HB.out.hn p ⟨by omega, by have := HB.out.hp; have := HB.out.hn; omega⟩).mono ?_
  rintro x2 w2 ⟨v, m, rfl, ho, hm8, hb2⟩
  rw [HE.out.1, HE.out.2.1]
  have HO : Hid (w2.ownsRow w.heap.size 103 2 v m (flat cs)) := Lib.hid (by rw [HE.out.2.2] at ho; exact ho)
  have HBW : Hid (Below w.heap.size w w2) := Lib.hid ((Below.refl _ w).drew.trans hb2)
  have HM := Lib.hid hm8
  clear ho hb2 hm8
  refine hK.out _ _ ?_ (fun hHeld => ?_)
  · exact ⟨cellW H0.out HBW.out, cellW H2.out HBW.out⟩
  clear hK K
  try simp only [Act.put, List.setIfInBounds_toArray, List.set_cons_zero, List.set_cons_succ]
  refine wpAnyH_take (i := 10) (oi := { dst := some 15, op := Op.move (Operand.tmp 25), type := 142, pos := "read.go:89", after := #[{ on := 9, ground := Ground.data }], guard := none }) (v := ?_) rfl (by kernel_rfl) (by kernel_rfl) (by kernel_rfl) (fun _ _ _ h => h) (Or.inl ⟨by rfl, ?_⟩) (by assumption) ?_
  rotate_left
  · (intro w hSw; (try dsimp only at hSw); go_simp; try with_reducible rfl)
  try simp only [Act.put, List.setIfInBounds_toArray, List.set_cons_zero, List.set_cons_succ]
  refine wpAnyH_take (i := 11) (oi := { dst := some 26, op := Op.extract (Operand.tmp 15) 0, type := 45, pos := "read.go:89", after := #[{ on := 10, ground := Ground.data }], guard := none }) (v := ?_) rfl (by kernel_rfl) (by kernel_rfl) (by kernel_rfl) (fun _ _ _ h => h) (Or.inl ⟨by rfl, ?_⟩) (by assumption) ?_
  rotate_left
  · (intro w hSw; (try dsimp only at hSw); go_simp; try with_reducible rfl)
  try simp only [Act.put, List.setIfInBounds_toArray, List.set_cons_zero, List.set_cons_succ]
  refine wpAnyH_take (i := 12) (oi := { dst := some 27, op := Op.extract (Operand.tmp 15) 1, type := 3, pos := "read.go:89", after := #[{ on := 10, ground := Ground.data }, { on := 14, ground := Ground.gcOnly Departure.lateStores }], guard := none }) (v := ?_) rfl (by kernel_rfl) (by kernel_rfl) (by kernel_rfl) (fun _ _ _ h => h) (Or.inl ⟨by rfl, ?_⟩) (by assumption) ?_
  rotate_left
  · (intro w hSw; (try dsimp only at hSw); go_simp; try with_reducible rfl)
  try simp only [Act.put, List.setIfInBounds_toArray, List.set_cons_zero, List.set_cons_succ]
  refine wpAnyH_take (i := 13) (oi := { dst := some 28, op := Op.extract (Operand.tmp 15) 2, type := 51, pos := "read.go:89", after := #[{ on := 10, ground := Ground.data }, { on := 15, ground := Ground.gcOnly Departure.lateStores }], guard := none }) (v := ?_) rfl (by kernel_rfl) (by kernel_rfl) (by kernel_rfl) (fun _ _ _ h => h) (Or.inl ⟨by rfl, ?_⟩) (by assumption) ?_
  rotate_left
  · (intro w hSw; (try dsimp only at hSw); go_simp; try with_reducible rfl)
  try simp only [Act.put, List.setIfInBounds_toArray, List.set_cons_zero, List.set_cons_succ]
  refine wpAnyH_take (i := 14) (oi := { dst := some 6, op := Op.assign (Operand.tmp 26), type := 45, pos := "read.go:89", after := #[{ on := 11, ground := Ground.data }, { on := 9, ground := Ground.chain }, { on := 0, ground := Ground.phase }, { on := 1, ground := Ground.phase }, { on := 2, ground := Ground.phase }, { on := 3, ground := Ground.phase }, { on := 4, ground := Ground.phase }, { on := 5, ground := Ground.phase }, { on := 6, ground := Ground.phase }, { on := 7, ground := Ground.phase }, { on := 8, ground := Ground.phase }, { on := 9, ground := Ground.phase }, { on := 10, ground := Ground.phase }, { on := 11, ground := Ground.phase }, { on := 12, ground := Ground.textOnly Departure.lateStores }, { on := 13, ground := Ground.textOnly Departure.lateStores }], guard := none }) (v := ?_) rfl (by kernel_rfl) (by kernel_rfl) (by kernel_rfl) (fun _ _ _ h => h) (Or.inl ⟨by rfl, ?_⟩) (by assumption) ?_
  rotate_left
  · (intro w hSw; (try dsimp only at hSw); go_simp; try with_reducible rfl)
  try simp only [Act.put, List.setIfInBounds_toArray, List.set_cons_zero, List.set_cons_succ]
  refine wpAnyH_take (i := 15) (oi := { dst := some 7, op := Op.assign (Operand.tmp 27), type := 3, pos := "read.go:89", after := #[{ on := 12, ground := Ground.data }, { on := 14, ground := Ground.chain }, { on := 0, ground := Ground.phase }, { on := 1, ground := Ground.phase }, { on := 2, ground := Ground.phase }, { on := 3, ground := Ground.phase }, { on := 4, ground := Ground.phase }, { on := 5, ground := Ground.phase }, { on := 6, ground := Ground.phase }, { on := 7, ground := Ground.phase }, { on := 8, ground := Ground.phase }, { on := 9, ground := Ground.phase }, { on := 10, ground := Ground.phase }, { on := 11, ground := Ground.phase }, { on := 12, ground := Ground.phase }, { on := 13, ground := Ground.textOnly Departure.lateStores }, { on := 14, ground := Ground.phase }], guard := none }) (v := ?_) rfl (by kernel_rfl) (by kernel_rfl) (by kernel_rfl) (fun _ _ _ h => h) (Or.inl ⟨by rfl, ?_⟩) (by assumption) ?_
  rotate_left
  · (intro w hSw; (try dsimp only at hSw); go_simp; try with_reducible rfl)
  try simp only [Act.put, List.setIfInBounds_toArray, List.set_cons_zero, List.set_cons_succ]
  refine wpAnyH_take (i := 16) (oi := { dst := some 8, op := Op.assign (Operand.tmp 28), type := 51, pos := "read.go:89", after := #[{ on := 13, ground := Ground.data }, { on := 15, ground := Ground.chain }, { on := 0, ground := Ground.phase }, { on := 1, ground := Ground.phase }, { on := 2, ground := Ground.phase }, { on := 3, ground := Ground.phase }, { on := 4, ground := Ground.phase }, { on := 5, ground := Ground.phase }, { on := 6, ground := Ground.phase }, { on := 7, ground := Ground.phase }, { on := 8, ground := Ground.phase }, { on := 9, ground := Ground.phase }, { on := 10, ground := Ground.phase }, { on := 11, ground := Ground.phase }, { on := 12, ground := Ground.phase }, { on := 13, ground := Ground.phase }, { on := 14, ground := Ground.phase }, { on := 15, ground := Ground.phase }], guard := none }) (v := ?_) rfl (by kernel_rfl) (by kernel_rfl) (by kernel_rfl) (fun _ _ _ h => h) (Or.inl ⟨by rfl, ?_⟩) (by assumption) ?_
  rotate_left
  · (intro w hSw; (try dsimp only at hSw); go_simp; try with_reducible rfl)
  try simp only [Act.put, List.setIfInBounds_toArray, List.set_cons_zero, List.set_cons_succ]
  refine wpAnyH_done (by kernel_rfl) ?_ _
  refine NoPanic.normal ?_
  have RB2 : RB w2 b A n c f p 0 := HB.out.rb.eq (HBW.out.block b HB.out.rb.lt)
  have c2 := RB2.c2
  have f2 := frozen_of_row w2 b 2 _ 138 RB2
  have HRB := Lib.hid RB2
  have s2 : (p : Int) + (k : Int) = (q : Nat) := by omega
  clear h0 h2 h3 RB2 hHeld
  go_wp2_with fail
  go_ret
  refine ⟨v, m, rfl, ?_, HM.out, HRB.out.set2 _, grown_trans (grown_below HBW.out _) (grown_set _ _ _ _)⟩
  refine Go.NR.own_stay HO.out fun g hg => Below.heap_setCell _ _ _ _ ?_
  have hbl := HB.out.rb.lt
  rcases HO.out.2 with ⟨rfl, _⟩ | ⟨g', cap, cur, rfl, hg', _⟩
  · simp [Value.ownBlock] at hg
  · simp [Value.ownBlock] at hg
    dsimp only
    omega
end Go.Proofs.Ytfblhcphbcghpaa
end

section
namespace Go.Proofs.Ytfblhcphbcghpaa
open Go.RowKit
set_option maxRecDepth 100000
theorem size48 : (Try.prog.info? 48).map (·.size) = some 3 := by kernel_rfl
theorem st48 : Try.prog.underlying 48 = some (.struct (Try.prog.fieldsOf 48)) := by kernel_rfl
def foot0 : Array Value := #[.int .u64 0, .slice none 0 0, .slice none 0 0]
theorem own_crs {w : World} {B m : Nat} {v : Value} {cs : List (List UInt8 × Int)} (h : w.ownsRow B 103 2 v m (flat cs)) (hc : cs ≠ []) : ∃ g c, v = .slice (some ⟨g, 0, none⟩) cs.length c ∧ m = cs.length ∧ B ≤ g ∧ CR w (some ⟨g, 0, none⟩) cs.length c cs := by
  have hf : ∀ cs : List (List UInt8 × Int), (flat cs).length = cs.length * 2 := by
    intro cs
    induction cs with
    | nil => rfl
    | cons q cs ih =>
      have e : flat (q :: cs) = [Value.string (strOf q.1), .int .i64 q.2] ++ flat cs := by unfold flat; rfl
      rw [e, List.length_append, ih]
      simp
      omega
  have hg : ∀ (cs : List (List UInt8 × Int)) (j : Nat) (q : List UInt8 × Int), cs[j]? = some q → (flat cs)[j * 2]? = some (.string (strOf q.1)) ∧ (flat cs)[j * 2 + 1]? = some (.int .i64 q.2) := by
    intro cs
    induction cs with
    | nil => intro j q h; simp at h
    | cons a cs ih =>
      intro j q h
      have e : flat (a :: cs) = Value.string (strOf a.1) :: .int .i64 a.2 :: flat cs := by unfold flat; rfl
      rw [e]
      cases j with
      | zero => simp at h; subst h; simp
      | succ j =>
        simp only [List.getElem?_cons_succ] at h
        have := ih j q h
        rw [show (j + 1) * 2 = j * 2 + 1 + 1 by omega, show j * 2 + 1 + 1 + 1 = (j * 2 + 1) + 1 + 1 by omega]
        simp only [List.getElem?_cons_succ]
        exact this
  have hm : m = cs.length := by
    have := h.1
    rw [hf] at this
    omega
  subst hm
  have hp : cs.length ≠ 0 := fun e => hc (List.eq_nil_of_length_eq_zero e)
  obtain ⟨g, c, rfl, h1, h2, h3, h4, h5, _⟩ := Go.NR.own_at h hp
  refine ⟨g, c, rfl, rfl, h1, rfl, h3, h4, fun j q hj => ⟨g, rfl, ?_⟩⟩
  have hjl := (List.getElem?_eq_some_iff.1 hj).1
  obtain ⟨k1, k2⟩ := hg cs j q hj
  exact ⟨(h5 _ (by omega)).trans k1, (h5 _ (by omega)).trans k2⟩
structure FG (w w0 wr : World) (b s z : Nat) (A : Option Addr) (n c : Nat) (l : List UInt8) (p : Nat) (er : Int) (cells : Array Value) : Prop where
  rd : RdIn w0 wr b A n c l 0 p er
  here : wr.heap[s]? = some (.cells cells 48 (0, 0))
  sb : s ≠ b
  s0 : w0.heap.size ≤ s
  z0 : w.heap.size ≤ z
  zl : z < w0.heap.size
  zh : wr.heap[z]? = some (.cells foot0 48 (0, 0))
  be : Below w.heap.size w wr
theorem FG.next {w w0 wr w' : World} {b s z : Nat} {A : Option Addr} {n c : Nat} {l : List UInt8} {p : Nat} {er : Int} {cells : Array Value} (h : FG w w0 wr b s z A n c l p er cells) {p' : Nat} {e' : Int} (hr : Rd wr b A n c 0 p' e' w') (hp : p' ≤ n) : FG w w0 w' b s z A n c l p' e' cells := by
  have hbx := h.rd.box
  have hzl := h.zl
  have hbs := h.rd.bel.size
  have hz0 := h.z0
  refine ⟨h.rd.next hr hp, ?_, h.sb, h.s0, h.z0, h.zl, ?_, ?_⟩
  · exact (hr.2.block s (Go.NR.heap_lt h.here) (fun q => h.sb (by simpa using q))).trans h.here
  · exact (hr.2.block z (by omega) (fun q => by simp at q; omega)).trans h.zh
  · exact h.be.grown hr.2 h.be.size (fun k hk => by cases hk; omega)
theorem FG.set {w w0 wr : World} {b s z : Nat} {A : Option Addr} {n c : Nat} {l : List UInt8} {p : Nat} {er : Int} {cells : Array Value} (h : FG w w0 wr b s z A n c l p er cells) (k : Nat) (v : Value) : FG w w0 (wr.setCell ⟨s, k, none⟩ v) b s z A n c l p er (cells.set! k v) := by
  have hs0 := h.s0
  have hzl := h.zl
  have hz0 := h.z0
  refine ⟨⟨?_, h.rd.di, ?_, h.rd.box, h.rd.hn, h.rd.hp⟩, heap_setCell_same wr s k _ 48 _ h.here, h.sb, h.s0, h.z0, h.zl, ?_, ?_⟩
  · exact h.rd.rb.eq (Below.heap_setCell _ _ _ _ (fun q => h.sb q.symm))
  · exact h.rd.bel.grown (grown_set wr s k v) h.rd.bel.size (fun k hk => by cases hk; exact hs0)
  · exact (Below.heap_setCell _ _ _ _ (by dsimp only; omega)).trans h.zh
  · exact h.be.grown (grown_set wr s k v) h.be.size (fun k hk => by cases hk; omega)
theorem footB_num {e : Nat} (he : e < 18446744073709551616) {cs : List (List UInt8 × Int)} : Proofs.rnum (footB e cs) 0 0 = ((e : Int), (encN e).length, 0) := by
  have := rnum_ok (getN_put (l := footB e cs) (p := 0) (u := e) (r := schB cs ++ encN 0) (by unfold footB; rw [List.drop_zero, List.append_assoc]) he)
  rw [this, Nat.zero_add]
theorem footB_sch {e : Nat} {cs : List (List UInt8 × Int)} (hc : chk cs = 0) : sgetE (footB e cs) ((encN e).length : Nat) = 0 ∧ sgetC (footB e cs) ((encN e).length : Nat) = cs ∧ sgetN (footB e cs) ((encN e).length : Nat) = (schB cs).length :=
  sget_sch (r := encN 0) (by unfold footB; rw [List.append_assoc, List.drop_left]) hc (by unfold footB; rw [List.length_append, List.length_append]; omega)
theorem footB_cnt {e : Nat} {cs : List (List UInt8 × Int)} : Proofs.rnum (footB e cs) ((encN e).length + (schB cs).length) 0 = (((0 : Nat) : Int), (encN e).length + (schB cs).length + (encN 0).length, 0) :=
  rnum_ok (getN_put (r := []) (by unfold footB; rw [← List.length_append, List.drop_left, List.append_nil]) (by decide))
theorem footB_len {e : Nat} {cs : List (List UInt8 × Int)} : (footB e cs).length = (encN e).length + (schB cs).length + (encN 0).length := by
  unfold footB
  rw [List.length_append, List.length_append]
structure FO (w0 wr : World) (b s g cv : Nat) (cs : List (List UInt8 × Int)) : Prop where
  own : wr.ownsRow w0.heap.size 103 2 (.slice (some ⟨g, 0, none⟩) cs.length cv) cs.length (flat cs)
  gs : g ≠ s
  gb : g ≠ b
theorem FO.next {w0 wr w' : World} {b s g cv : Nat} {cs : List (List UInt8 × Int)} {A : Option Addr} {n c : Nat} {f p e : Int} (h : FO w0 wr b s g cv cs) (hr : Rd wr b A n c f p e w') : FO w0 w' b s g cv cs :=
  ⟨Go.NR.own_stay h.own (fun k hk => by
    simp [Value.ownBlock] at hk
    subst hk
    exact hr.2.block _ (h.own.lt g rfl).2 (fun q => h.gb (by simpa using q))), h.gs, h.gb⟩
theorem FO.set {w0 wr : World} {b s g cv : Nat} {cs : List (List UInt8 × Int)} (h : FO w0 wr b s g cv cs) (k : Nat) (v : Value) : FO w0 (wr.setCell ⟨s, k, none⟩ v) b s g cv cs :=
  ⟨Go.NR.own_stay h.own (fun j hj => by
    simp [Value.ownBlock] at hj
    subst hj
    exact Below.heap_setCell _ _ _ _ h.gs), h.gs, h.gb⟩
def FGot (w : World) (e : Nat) (cs : List (List UInt8 × Int)) (x : Ending) (w' : World) : Prop := ∃ g c, x = .returned (.tuple #[.agg #[.int .u64 e, .slice (some ⟨g, 0, none⟩) cs.length c, .slice none 0 0], .int .i64 0]) ∧ CR w' (some ⟨g, 0, none⟩) cs.length c cs ∧ Below w.heap.size w w' ∧ w.heap.size ≤ g
set_option maxHeartbeats 8000000 in
theorem Try.footGet (w : World) {A : Option Addr} {n c e : Nat} {cs : List (List UInt8 × Int)} (he : e < 18446744073709551616) (he0 : e ≠ 0) (hok : chk cs = 0) (hD : DI w A n c (footB e cs)) :
    Calls Try.prog 9 #[.slice A n c] w (FGot w e cs) := by
  have hfl := footB_le (e := e) hok
  have hln := hD.len
  have hlen := footB_len (e := e) (cs := cs)
  have f1 := footB_num he (cs := cs)
  have f2 := footB_sch (e := e) hok
  have f3 := footB_cnt (e := e) (cs := cs)
  have hcn : cs ≠ [] := by
    obtain ⟨h1, _, _⟩ := chk_ok hok
    intro h
    rw [h] at h1
    simp at h1
  obtain ⟨l, hl⟩ : ∃ l, footB e cs = l := ⟨_, rfl⟩
  obtain ⟨p1, hp1⟩ : ∃ p, (encN e).length = p := ⟨_, rfl⟩
  obtain ⟨k, hk⟩ : ∃ k, (schB cs).length = k := ⟨_, rfl⟩
  have hz1 : (encN 0).length = 1 := rfl
  rw [hl] at hfl hln hlen hD f1 f2 f3
  rw [hp1] at hlen f1 f2 f3
  rw [hk] at hlen f2 f3
  rw [hz1] at hlen f3
  have F1 := Lib.hid f1
  have F2 := Lib.hid f2
  have F3 := Lib.hid f3
  have HCN := Lib.hid hcn
  have hn : p1 + k + 1 = n := by omega
  have hn6 : n ≤ 200 := by omega
  have HD := Lib.hid (hD.below ((Below.refl _ w).alloc (Nat.le_refl _) (.cells foot0 48)))
  have VZ := Lib.hid (heap_alloc_new w (.cells foot0 48))
  have BZ := Lib.hid ((Below.refl _ w).alloc (Nat.le_refl _) (.cells foot0 48))
  obtain ⟨w0, hw0⟩ : ∃ w0, w.alloc (.cells foot0 48) = w0 := ⟨_, rfl⟩
  obtain ⟨z, hz⟩ : ∃ z, w.heap.size = z := ⟨_, rfl⟩
  rw [hw0] at HD VZ BZ
  rw [hz] at VZ
  have hg0 : decide ((0 : Int) < (e : Int)) = true := decide_eq_true (by omega)
  have hg0' : decide (0 < e) = true := decide_eq_true (by omega)
  clear f1 f2 f3 hcn hD hl hp1 hk hz1 hlen hln hfl he0
  go_enter Try.func9, Try.ntmps9
  go_upto_region 1 with fail
  unfold foot0 at hw0
  rw [hw0]
  have HZ := Lib.hid hz
  clear hw0 hz
  refine Go.NR.wp_scope_once 0 (fun a' wr => ∃ b s g cv : Nat, Hid (FG w w0 wr b s z A n c l n 0 #[.int .u64 e, .slice (some ⟨g, 0, none⟩) cs.length cv, .slice none 0 0]) ∧ Hid (FO w0 wr b s g cv cs) ∧ ∃ u1 u7 u8 u9 u10 u11 u12 u13 u14 u15 u16 u17 u18 u19 u20 u21 u22 u23 u24 u25 u26 u27 u28 u29 u30 u31 u32 u33 u34 u35 u36 u37 u38 u39 u40 u41 u42 u43 u44 u45 u46 u47 u48 u49 u50 u51 u52 u53 u54 u55 u56 : Value, a' = { tmps := #[.slice A n c, u1, .pointer (some ⟨z, 0, none⟩), .int .i64 0, .pointer (some ⟨b, 0, none⟩), .pointer (some ⟨s, 0, none⟩), .int .u64 0, u7, u8, u9, u10, u11, u12, u13, u14, u15, u16, u17, u18, u19, u20, u21, u22, u23, u24, u25, u26, u27, u28, u29, u30, u31, u32, u33, u34, u35, u36, u37, u38, u39, u40, u41, u42, u43, u44, u45, u46, u47, u48, u49, u50, u51, u52, u53, u54, u55, u56], defers := [] }) (fun _ _ => 0) rfl ?_ ?_
  · intro hL
    go_wp2_with fail
    refine (Try.rnew w0 A n c 0 0 (by omega) (by rw [if_pos]; omega)).mono ?_
    rintro x w1 ⟨b, rfl, hrb, hR1, hb1⟩
    have hR : RdIn w0 w1 b A n c l 0 0 0 := ⟨hR1, HD.out, hb1, hrb, by omega, by omega⟩
    have HR := Lib.hid hR
    clear hrb hR1 hb1 hR
    go_wp2_with fail
    refine (Try.rnum HR.out).mono ?_
    rintro x w2 ⟨rfl, h2⟩
    rw [F1.out] at h2 ⊢
    dsimp only at h2 ⊢
    have HR2 : Hid (RdIn w0 w2 b A n c l 0 p1 0) := Lib.hid (HR.out.next h2 (by omega))
    clear h2
    have HF : Hid (FG w w0 (w2.alloc (.cells #[.int .u64 e, .slice none 0 0, .slice none 0 0] 48)) b w2.heap.size z A n c l p1 0 #[.int .u64 e, .slice none 0 0, .slice none 0 0]) := Lib.hid (by
      have hr := HR2.out
      have hbl := hr.rb.lt
      have hz0 := Go.NR.heap_lt VZ.out
      have hs := hr.bel.size
      have hb3 := (Below.refl w2.heap.size w2).alloc (Nat.le_refl _) (.cells #[.int .u64 e, .slice none 0 0, .slice none 0 0] 48)
      refine ⟨⟨hr.rb.eq (hb3.block b hbl), hr.di, hr.bel.trans (hb3.mono hs), hr.box, hr.hn, hr.hp⟩, heap_alloc_new w2 _, by omega, hs, by have := HZ.out; omega, hz0, (hb3.block z (by omega)).trans ((hr.bel.block z hz0).trans VZ.out), BZ.out.trans ((hr.bel.trans (hb3.mono hs)).mono BZ.out.size)⟩)
    clear HR
    go_wp2_with fail
    refine (Try.rneed HF.out.rd.rb true 1 0 (by simp)).mono ?_
    rintro x w3 ⟨rfl, h3⟩
    obtain ⟨s, hs⟩ : ∃ s, w2.heap.size = s := ⟨_, rfl⟩
    rw [hs] at HF
    rw [hs]
    have HF3 := Lib.hid (HF.out.next h3 (by omega))
    clear h3 HF hs HR2
    go_wp2_with fail
    refine (Try.rofS HF3.out.rd F2.out (by omega)).mono ?_
    rintro x w4 ⟨v, m, rfl, ho, hm8, h4⟩
    have HF4 := Lib.hid (HF3.out.next h4 (by omega))
    obtain ⟨g, cv, rfl, rfl, hg, _⟩ := own_crs ho HCN.out
    have HO4 : Hid (FO w0 w4 b s g cv cs) := Lib.hid ⟨Go.NR.own_mono ho HF3.out.rd.bel.size, by
      have := Go.NR.heap_lt HF3.out.here
      omega, by
      have := HF3.out.rd.rb.lt
      omega⟩
    have f1 := frozen_of_row w4 s 1 _ 48 HF4.out.here
    have f2 : w4.cell? ⟨s, 1, none⟩ = some (.slice none 0 0) := cell_of_row w4 s 1 _ 48 _ HF4.out.here
    have HF5 := Lib.hid (HF4.out.set 1 (.slice (some ⟨g, 0, none⟩) cs.length cv))
    have HO5 := Lib.hid (HO4.out.set 1 (.slice (some ⟨g, 0, none⟩) cs.length cv))
    clear h4 HF3 ho HF4 HO4
    go_wp2_with fail
    refine (Try.rnum HF5.out.rd).mono ?_
    rintro x w6 ⟨rfl, h6⟩
    rw [F3.out] at h6 ⊢
    dsimp only at h6 ⊢
    have HF6 : Hid (FG w w0 w6 b s z A n c l n 0 #[.int .u64 e, .slice (some ⟨g, 0, none⟩) cs.length cv, .slice none 0 0]) := Lib.hid (by
      have := HF5.out.next h6 (by omega)
      rw [hn] at this
      exact this)
    have HO6 := Lib.hid (HO5.out.next h6)
    clear h6 HF5 HO5 f1 f2
    go_wp2_with fail
    refine (Try.rneed HF6.out.rd.rb true 4 0 (by simp)).mono ?_
    rintro x w7 ⟨rfl, h7⟩
    have HF7 := Lib.hid (HF6.out.next h7 (by omega))
    have HO7 := Lib.hid (HO6.out.next h7)
    clear h7 HF6 HO6
    go_wp2_with (refine wp_label ?_; rename_i Q0 K0 hK; refine hK _ _ (hL _ _ ?_); exact ⟨b, s, g, cv, HF7, HO7, _, _, _, _, _, _, _, _, _, _, _, _, _, _, _, _, _, _, _, _, _, _, _, _, _, _, _, _, _, _, _, _, _, _, _, _, _, _, _, _, _, _, _, _, _, _, _, _, _, _, _, rfl⟩)
  · rintro a' wr ⟨b, s, g, cv, HF, HO, u1, u7, u8, u9, u10, u11, u12, u13, u14, u15, u16, u17, u18, u19, u20, u21, u22, u23, u24, u25, u26, u27, u28, u29, u30, u31, u32, u33, u34, u35, u36, u37, u38, u39, u40, u41, u42, u43, u44, u45, u46, u47, u48, u49, u50, u51, u52, u53, u54, u55, u56, rfl⟩
    have c2 : wr.cell? ⟨s, 2, none⟩ = some (.slice none 0 0) := cell_of_row wr s 2 _ 48 _ HF.out.here
    go_wp2_with fail
    refine (Try.rerr HF.out.rd.rb).mono ?_
    rintro x w1 ⟨rfl, hw1⟩
    rw [hw1]
    clear hw1 w1
    go_wp2_with fail
    refine (Try.leftI HF.out.rd 0 (by rw [if_pos rfl]; omega)).mono ?_
    rintro x w1 ⟨rfl, h1⟩
    have HF1 := Lib.hid (HF.out.next h1 (by omega))
    have HO1 := Lib.hid (HO.out.next h1)
    clear h1 HF HO c2
    go_wp2_with fail
    refine (Try.rneed HF1.out.rd.rb true 4 0 (by simp)).mono ?_
    rintro x w2 ⟨rfl, h2⟩
    have HF2 := Lib.hid (HF1.out.next h2 (by omega))
    have HO2 := Lib.hid (HO1.out.next h2)
    clear h2 HF1 HO1
    go_wp2_with fail
    refine (Try.rerr HF2.out.rd.rb).mono ?_
    rintro x w3 ⟨rfl, hw3⟩
    rw [hw3]
    clear hw3 w3
    have HCR : Hid (CR w2 (some ⟨g, 0, none⟩) cs.length cv cs) := Lib.hid (by
      obtain ⟨g', c', e1, _, _, h⟩ := own_crs HO2.out.own HCN.out
      cases e1
      exact h)
    have HOW : Hid (w.heap.size ≤ g ∧ z ≠ g) := Lib.hid (by
      have h1 := (HO2.out.own.lt g rfl).1
      have h2 := HF2.out.zl
      have h3 := HF2.out.z0
      omega)
    have HZ2 := Lib.hid HF2.out.zh
    have HB2 := Lib.hid HF2.out.be
    have HH2 := Lib.hid HF2.out.here
    have HZ0 := Lib.hid HF2.out.z0
    obtain ⟨C, hC⟩ : ∃ C : Array Value, #[.int .u64 e, .slice (some ⟨g, 0, none⟩) cs.length cv, .slice none 0 0] = C := ⟨_, rfl⟩
    have HS : Hid (some 3 = some C.size) := Lib.hid (by rw [← hC]; rfl)
    have HONE : Hid (∀ u ∈ C.toList, u.oneCell' = true) := Lib.hid (by
      rw [← hC]
      intro u hu
      simp at hu
      rcases hu with rfl | rfl | rfl <;> rfl)
    have HNEW : Hid ((foot0.toList.take 0 ++ C.toList ++ foot0.toList.drop (0 + C.size)).toArray = C) := Lib.hid (by rw [← hC]; rfl)
    have HSZ : Hid (0 + C.size ≤ foot0.size) := Lib.hid (by rw [← hC]; exact Nat.le_refl 3)
    rw [hC] at HH2
    have HC := Lib.hid hC
    clear hC HF2 HO2
    go_wp2_with (first
      | (refine wpList_load_row w2 rfl 48 (.tmp 5) rfl s 48 C _ rfl HH2.out (size48.trans HS.out) st48 ?_)
      | (refine wpList_store_at w2 rfl 48 (.tmp 2) (.tmp 56) rfl z 48 0 C foot0 C rfl rfl HZ2.out HSZ.out HNEW.out (size48.trans HS.out) HONE.out ?_))
    simp only [Exit.jump]
    refine bodyPost_ret (results_cell_tmp rfl _ _ z 48 C _ rfl (setRow_heap' _ z _ _ 48 HZ2.out) (size48.trans HS.out) st48) rfl ?_
    refine ⟨g, cv, ?_, ?_, Below.setRow HB2.out HZ0.out _, HOW.out.1⟩
    · rw [HC.out]; rfl
    · obtain ⟨k1, k2, k3, k4⟩ := HCR.out
      refine ⟨k1, k2, k3, fun j q hj => ?_⟩
      obtain ⟨g', e1, c1, c2⟩ := k4 j q hj
      cases e1
      refine ⟨g, rfl, ?_, ?_⟩
      · exact (World.cell?_of_block (Go.NR.setRow_else w2 z _ g (fun q => HOW.out.2 q.symm))).trans c1
      · exact (World.cell?_of_block (Go.NR.setRow_else w2 z _ g (fun q => HOW.out.2 q.symm))).trans c2
end Go.Proofs.Ytfblhcphbcghpaa
end

section
namespace Go.Proofs.Ytfblhcphbcghpaa
open Go.RowKit
set_option maxRecDepth 100000
theorem foot0_one : ∀ u ∈ foot0.toList, u.oneCell' = true := by
  intro u hu
  simp [foot0] at hu
  rcases hu with rfl | rfl <;> rfl
def FNone (w : World) (x : Ending) (w' : World) : Prop := x = .returned (.tuple #[.agg foot0, .int .i64 5]) ∧ Below w.heap.size w w'
end Go.Proofs.Ytfblhcphbcghpaa
end

section
namespace Go.Proofs.Ytfblhcphbcghpaa
open Go.RowKit
set_option maxRecDepth 100000
set_option maxHeartbeats 8000000 in
theorem Try.footCheck (w : World) (e : Nat) (he0 : e ≠ 0) {A2 : Option Addr} {n2 c2 : Nat} {cs : List (List UInt8 × Int)} (hC : CR w A2 n2 c2 cs) (hok : chk cs = 0) (k : Int) :
    Calls Try.prog 8 #[.agg #[.int .u64 e, .slice A2 n2 c2, .slice none 0 0], .int .i64 k] w fun x w' => x = .returned (.int .i64 0) ∧ Below w.heap.size w w' := by
  have d0 : ((e : Int) == 0) = false := by simpa using he0
  have d0' : decide ((e : Int) = 0) = false := decide_eq_false (by omega)
  have hb := (Below.refl _ w).alloc (Nat.le_refl _) (.cells #[.int .u64 e, .slice A2 n2 c2, .slice none 0 0] 48)
  have hnew := heap_alloc_new w (.cells #[.int .u64 e, .slice A2 n2 c2, .slice none 0 0] 48)
  have HC := Lib.hid (hC.below hb)
  have HOK := Lib.hid hok
  have HNM : Hid (∀ (j : Nat) (q : List UInt8 × Int), cs[j]? = some q → q.1.length ≤ 60000) := Lib.hid (fun j q h => by
    have := ((chk_ok hok).2.2 j q h).1
    omega)
  clear hC hok he0
  go_enter Try.func8, Try.ntmps8
  go_upto_region 1 with fail
  obtain ⟨wa, hwa⟩ : ∃ wa, w.alloc (.cells #[.int .u64 e, .slice A2 n2 c2, .slice none 0 0] 48) = wa := ⟨_, rfl⟩
  obtain ⟨bx, hbx⟩ : ∃ bx, w.heap.size = bx := ⟨_, rfl⟩
  rw [hwa] at hb hnew HC
  rw [hbx] at hnew
  rw [hwa, hbx]
  have V0 := cell_of_row wa bx 0 _ 48 _ hnew
  have V1 := cell_of_row wa bx 1 _ 48 _ hnew
  have HV := Lib.hid hnew
  have WB := Lib.hid hb
  simp at V0 V1
  clear hwa hb hnew hbx
  refine Go.NR.wp_scope_once 0 (fun a' wr => Hid (Below w.heap.size w wr) ∧ Hid (wr.heap[bx]? = some (.cells #[.int .u64 e, .slice A2 n2 c2, .slice none 0 0] 48 (0, 0))) ∧ ∃ u0 u1 u3 u6 u7 u8 u9 u10 u11 u12 u13 u14 u15 u16 u17 u18 u19 u20 u21 u22 u23 u24 u25 u26 u27 u28 u29 u30 u31 u32 u33 u34 u35 u36 u37 u38 u39 u40 u41 u42 u43 u44 u45 u46 u47 u48 u49 u50 u51 u52 : Value, a' = { tmps := #[u0, u1, .pointer (some ⟨bx, 0, none⟩), u3, .int .i64 0, .int .i64 0, u6, u7, u8, u9, u10, u11, u12, u13, u14, u15, u16, u17, u18, u19, u20, u21, u22, u23, u24, u25, u26, u27, u28, u29, u30, u31, u32, u33, u34, u35, u36, u37, u38, u39, u40, u41, u42, u43, u44, u45, u46, u47, u48, u49, u50, u51, u52], defers := [] }) (fun _ _ => 0) rfl ?_ ?_
  · intro hL
    go_wp2_with fail
    refine (Try.check wa A2 n2 c2 cs HC.out HNM.out).mono ?_
    rintro x w2 ⟨rfl, hb2⟩
    rw [HOK.out]
    have HV2 : Hid (w2.heap[bx]? = some (.cells #[.int .u64 e, .slice A2 n2 c2, .slice none 0 0] 48 (0, 0))) := Lib.hid ((hb2.block bx (Go.NR.heap_lt HV.out)).trans HV.out)
    have WB2 := Lib.hid (WB.out.trans (hb2.mono WB.out.size))
    have V2 : w2.cell? ⟨bx, 2, none⟩ = some (.slice none 0 0) := cell_of_row w2 bx 2 _ 48 _ HV2.out
    clear hb2 V0 V1
    go_wp2_with (refine wp_label ?_; rename_i Q0 K0 hK; refine hK _ _ (hL _ _ ?_); exact ⟨WB2, HV2, _, _, _, _, _, _, _, _, _, _, _, _, _, _, _, _, _, _, _, _, _, _, _, _, _, _, _, _, _, _, _, _, _, _, _, _, _, _, _, _, _, _, _, _, _, _, _, _, _, _, rfl⟩)
  · rintro a' wr ⟨WB2, HV2, u0, u1, u3, u6, u7, u8, u9, u10, u11, u12, u13, u14, u15, u16, u17, u18, u19, u20, u21, u22, u23, u24, u25, u26, u27, u28, u29, u30, u31, u32, u33, u34, u35, u36, u37, u38, u39, u40, u41, u42, u43, u44, u45, u46, u47, u48, u49, u50, u51, u52, rfl⟩
    have V2 : wr.cell? ⟨bx, 2, none⟩ = some (.slice none 0 0) := cell_of_row wr bx 2 _ 48 _ HV2.out
    go_wp2_with fail
    simp only [Exit.jump]
    go_ret
    exact ⟨rfl, WB2.out⟩
set_option maxHeartbeats 8000000 in
theorem Try.exts0 (w : World) : Calls Try.prog 29 #[.slice none 0 0] w fun x w' => x = .returned (.slice none 0 0) ∧ w' = w := by
  go_enter Try.func29, Try.ntmps29
  go_wp2_with fail
  go_loop [3, 10] (fun v t => v = .slice none 0 0 ∧ t = .int .i64 0) (fun _ _ => 0)
  case atStart => exact ⟨rfl, rfl⟩
  case round =>
    obtain ⟨rfl, rfl⟩ := hrel
    go_wp2_with fail
    go_ret
    exact ⟨rfl, rfl⟩
theorem Try.used0 (w : World) (e : Nat) (v : Value) (hv : v.oneCell' = true) : Calls Try.prog 11 #[.agg #[.int .u64 e, v, .slice none 0 0]] w fun x w' => x = .returned (.slice none 0 0) ∧ Below w.heap.size w w' := by
  have hb := Lib.hid ((Below.refl _ w).alloc (Nat.le_refl _) (.cells #[.int .u64 e, v, .slice none 0 0] 48))
  go_enter Try.func11, Try.ntmps11
  go_wp2_with fail
  refine (Try.exts0 _).mono ?_
  rintro x w1 ⟨rfl, hw⟩
  rw [hw]
  go_wp2_with fail
  go_ret
  exact ⟨rfl, hb.out⟩
end Go.Proofs.Ytfblhcphbcghpaa
end

section
namespace Go.Proofs.Ytfblhcphbcghpaa
open Go.RowKit
set_option maxRecDepth 100000
set_option maxHeartbeats 8000000 in
theorem Try.extCheck (w : World) (a n k : Nat) (h1 : 1 ≤ n) (h2 : 2 ≤ a) (h3 : a + n ≤ k) (hk : k ≤ 1024) : Calls Try.prog 77 #[.agg #[.int .i64 a, .int .i64 n], .int .i64 k] w fun x w' => x = .returned (.int .i64 0) ∧ Below w.heap.size w w' := by
  have hb := Lib.hid ((Below.refl _ w).alloc (Nat.le_refl _) (.cells #[.int .i64 a, .int .i64 n] 60))
  have d1 : decide ((n : Int) < 1) = false := decide_eq_false (by omega)
  have d2 : decide ((a : Int) < 2) = false := decide_eq_false (by omega)
  have d3 : decide ((k : Int) < (a : Int)) = false := decide_eq_false (by omega)
  have d4 : decide ((k : Int) - (a : Int) < (n : Int)) = false := decide_eq_false (by omega)
  have d5 : min (k : Int) 1024 = k := by omega
  go_enter Try.func77, Try.ntmps77
  go_wp2_with fail
  go_ret
  exact ⟨rfl, hb.out⟩
def SupWrote (w : World) (F : Nat → Prop) (d k : Nat) (L T : List UInt8) (q : Nat) (s : Nat) (p : List UInt8) (e : Ending) (w' : World) : Prop :=
  e = .returned (.int .i64 0) ∧ ∃ F' Q', DV w' F' d k L (layB T s p) Q' ∧ Q'.length = q + 1 ∧ Upd w w' F F'
set_option maxHeartbeats 8000000 in
theorem Try.supWrite {w : World} {F : Nat → Prop} {d k : Nat} {L T : List UInt8} {Q : List (Nat × List UInt8)} (hd : DV w F d k L T Q) (hQ : Q.length ≤ 10000) (hk : 2 ≤ k) (e a n : Nat) (he : e < 18446744073709551616) (hok : okS e (a : Int) (n : Int)) :
    Calls Try.prog 16 #[.pointer (some ⟨d, 0, none⟩), .agg #[.int .u64 e, .int .i64 a, .int .i64 n]] w (SupWrote w F d k L T Q.length (e % 2) (supB e a n)) := by
  have hb := (Below.refl _ w).alloc (Nat.le_refl _) (.cells #[.int .u64 e, .int .i64 a, .int .i64 n] 70)
  have hnew := heap_alloc_new w (.cells #[.int .u64 e, .int .i64 a, .int .i64 n] 70)
  have hd1 := DV.below hd hb
  have HF := Lib.hid (DV.lt hd)
  obtain ⟨_, ha, hn⟩ := id hok
  have HOK := Lib.hid hok
  have HQ := Lib.hid hQ
  go_enter Try.func16, Try.ntmps16
  go_upto_region 1 with fail
  obtain ⟨wa, hwa⟩ : ∃ wa, w.alloc (.cells #[.int .u64 e, .int .i64 a, .int .i64 n] 70) = wa := ⟨_, rfl⟩
  obtain ⟨bx, hbx⟩ : ∃ bx, w.heap.size = bx := ⟨_, rfl⟩
  rw [hwa] at hb hnew hd1
  rw [hbx] at hnew
  rw [hwa, hbx]
  have V0 := cell_of_row wa bx 0 _ 70 _ hnew
  have V1 := cell_of_row wa bx 1 _ 70 _ hnew
  have V2 := cell_of_row wa bx 2 _ 70 _ hnew
  simp at V0 V1 V2
  have HV := Lib.hid hnew
  have WB := Lib.hid hb
  have HD := Lib.hid hd1
  clear hwa hb hnew hd1 hd hok hQ
  go_wp2_with fail
  refine (Try.sput wa e a n he ⟨by omega, by omega⟩ ⟨by omega, by omega⟩).mono ?_
  rintro x w2 h2
  have h3 : ∃ v, x = .returned (.tuple #[v, .int .i64 0]) ∧ OB w2 wa.heap.size v (supB e a n) ∧ Below wa.heap.size wa w2 := by
    rcases h2 with ⟨_, ⟨v, hx, ho⟩, hb⟩ | ⟨hx, _⟩
    · rw [Int.toNat_natCast, Int.toNat_natCast] at ho
      exact ⟨v, hx, ho, hb⟩
    · exact absurd HOK.out hx
  clear h2
  obtain ⟨v, rfl, ho, hb2⟩ := h3
  have hsl := supB_len e a n
  obtain ⟨A, c, rfl, hdi⟩ := ho.di
  rw [hsl] at hdi
  rw [hsl]
  obtain ⟨g, og, rfl⟩ := hdi.place (by omega)
  have hg : wa.heap.size ≤ g := (ho.lt g (by simp [Value.ownBlock])).1
  have HDI := Lib.hid hdi
  have HD2 := Lib.hid (DV.below HD.out hb2)
  have WB2 := Lib.hid (WB.out.trans (hb2.mono WB.out.size))
  have c0 := cellW V0 hb2
  have HG : Hid (¬ F g) := Lib.hid (fun h => by have := HF.out g h; have := WB.out.size; omega)
  obtain ⟨r, hr⟩ : ∃ r, e % 2 = r := ⟨_, rfl⟩
  have hes : ((e : Int) % 2) = (r : Nat) := by omega
  have hr2 : r < k := by omega
  rw [hr]
  have HSL := Lib.hid hsl
  clear ho hdi hb2 V0 V1 V2 hsl hg
  go_wp2_with fail
  refine (Try.slot e he w2).mono ?_
  rintro x w3 ⟨rfl, hw3⟩
  rw [hw3, hes]
  have HR := Lib.hid hr
  clear hw3 w3 hes hr
  go_wp2_with fail
  obtain ⟨lb, cl, tb, ct, vw, ds, hdw⟩ := HD2.out
  refine (Try.dwrite w2 F d k lb cl tb ct vw ds L T Q hdw r hr2 ⟨g, og, none⟩ c _ HSL.out (HDI.out.srcX (Below.refl _ w2)) HG.out (by have := HQ.out; omega)).mono ?_
  rintro x w3 ⟨rfl, F1, q1, q2⟩
  have H1 : Hid (∃ F' Q', DV w3 F' d k L (layB T (e % 2) (supB e a n)) Q' ∧ Q'.length = Q.length + 1 ∧ Upd w w3 F F') := Lib.hid (by
    refine ⟨F1, Q ++ [(r, supB e a n)], ?_, by simp, (Upd.of WB2.out F).comp q2⟩
    rw [HR.out]
    unfold layB
    rw [HSL.out]
    exact q1)
  clear q1 q2 hdw
  go_wp2_with fail
  go_ret
  exact ⟨rfl, H1.out⟩
end Go.Proofs.Ytfblhcphbcghpaa
end

section
namespace Go.Proofs.Ytfblhcphbcghpaa
open Go.RowKit
set_option maxRecDepth 100000
def FAt (w : World) (e : Nat) (cs : List (List UInt8 × Int)) (x : Ending) (w' : World) : Prop := ∃ g c, x = .returned (.tuple #[.agg #[.int .u64 e, .slice (some ⟨g, 0, none⟩) cs.length c, .slice none 0 0], .bool true]) ∧ CR w' (some ⟨g, 0, none⟩) cs.length c cs ∧ Below w.heap.size w w' ∧ w.heap.size ≤ g
set_option maxHeartbeats 8000000 in
theorem Try.footAt {w : World} {F : Nat → Prop} {d k : Nat} {L T : List UInt8} {Q : List (Nat × List UInt8)} (hd : DV w F d k L T Q) (a n : Nat) (h1 : 1 ≤ n) (hfit : a + n ≤ k) {e : Nat} {cs : List (List UInt8 × Int)} (he : e < 18446744073709551616) (he0 : e ≠ 0) (hok : chk cs = 0) (hpg : cat T a n = pageB (footB e cs)) :
    Calls Try.prog 78 #[.pointer (some ⟨d, 0, none⟩), .agg #[.int .i64 a, .int .i64 n]] w (FAt w e cs) := by
  have hfl := footB_le (e := e) hok
  obtain ⟨lb, cl, tb, ct, vw, ds, hdw⟩ := id hd
  have h16 : 64 * k ≤ 65536 := by have := hdw.hk; omega
  have hq : 64 * k / 64 = k := by omega
  have HDC := Lib.hid hdw.c1
  clear hdw
  have hb1 := (Below.refl w.heap.size w).alloc (Nat.le_refl _) (.cells #[.int .i64 a, .int .i64 n] 60)
  have hn1 := heap_alloc_new w (.cells #[.int .i64 a, .int .i64 n] 60)
  obtain ⟨wa, hwa⟩ : ∃ wa, w.alloc (.cells #[.int .i64 a, .int .i64 n] 60) = wa := ⟨_, rfl⟩
  obtain ⟨bx, hbx⟩ : ∃ bx, w.heap.size = bx := ⟨_, rfl⟩
  rw [hwa] at hb1 hn1
  rw [hbx] at hn1
  have hb2 := hb1.trans (((Below.refl wa.heap.size wa).alloc (Nat.le_refl _) (.cells foot0 48)).mono hb1.size)
  have hn2 := heap_alloc_new wa (.cells foot0 48)
  have hk2 := ((Below.refl wa.heap.size wa).alloc (Nat.le_refl _) (.cells foot0 48)).block bx (Go.NR.heap_lt hn1)
  obtain ⟨w0, hw0⟩ : ∃ w0, wa.alloc (.cells foot0 48) = w0 := ⟨_, rfl⟩
  obtain ⟨z, hz⟩ : ∃ z, wa.heap.size = z := ⟨_, rfl⟩
  rw [hw0] at hb2 hn2 hk2
  rw [hz] at hn2
  have X0 := cell_of_row w0 bx 0 _ 60 _ (hk2.trans hn1)
  have X1 := cell_of_row w0 bx 1 _ 60 _ (hk2.trans hn1)
  simp at X0 X1
  have HZ := Lib.hid hn2
  have WB := Lib.hid hb2
  have HD := Lib.hid (DV.below hd hb2)
  have HOK := Lib.hid hok
  have HZ0 : Hid (w.heap.size ≤ z) := Lib.hid (by have := hb1.size; omega)
  have HPG := Lib.hid hpg
  clear hb1 hb2 hn1 hn2 hk2 hd hok hpg
  go_enter Try.func78, Try.ntmps78
  unfold foot0 at hw0
  go_upto_region 1 with fail
  (try rw [hwa])
  (try rw [hw0])
  clear hwa hw0 hz hbx
  go_wp2_with fail
  refine (Try.pread HD.out a n h1 hfit (by omega) HPG.out).mono ?_
  rintro x w1 ⟨A, c, rfl, hdi, hb1⟩
  have HDI := Lib.hid hdi
  have B1 := Lib.hid hb1
  clear hdi hb1
  go_wp2_with fail
  refine (Try.footGet w1 he he0 HOK.out HDI.out).mono ?_
  rintro x w2 ⟨g, cv, rfl, hcr, hb2, hgl⟩
  have HGZ : Hid (w0.heap.size ≤ g) := Lib.hid (by have := B1.out.size; omega)
  have B2 := Lib.hid (B1.out.trans (hb2.mono B1.out.size))
  have hb3 := (Below.refl w2.heap.size w2).alloc (Nat.le_refl _) (.cells #[.int .u64 e, .slice (some ⟨g, 0, none⟩) cs.length cv, .slice none 0 0] 48)
  have hn3 := heap_alloc_new w2 (.cells #[.int .u64 e, .slice (some ⟨g, 0, none⟩) cs.length cv, .slice none 0 0] 48)
  have hcr4 := hcr.below hb3
  have HB3 := Lib.hid hb3
  have HN3 := Lib.hid hn3
  have HCR4 := Lib.hid hcr4
  clear hb2 hb3 hn3 hcr hcr4 B1 X0 X1 HDI hgl
  go_upto_region 5 with fail
  obtain ⟨w4, hw4⟩ : ∃ w4, w2.alloc (.cells #[.int .u64 e, .slice (some ⟨g, 0, none⟩) cs.length cv, .slice none 0 0] 48) = w4 := ⟨_, rfl⟩
  obtain ⟨s, hs⟩ : ∃ s, w2.heap.size = s := ⟨_, rfl⟩
  have hb3 := HB3.out
  have hn3 := HN3.out
  have hcr4 := HCR4.out
  rw [hw4] at hb3 hn3 hcr4
  rw [hs] at hn3
  have B4 := Lib.hid (B2.out.trans (hb3.mono B2.out.size))
  have V0 := Lib.hid (cell_of_row w4 s 0 _ 48 _ hn3)
  have V1 := Lib.hid (cell_of_row w4 s 1 _ 48 _ hn3)
  have V2 := Lib.hid (cell_of_row w4 s 2 _ 48 _ hn3)
  have HS4 := Lib.hid hn3
  have HCR := Lib.hid hcr4
  have DC : Hid (w4.cell? ⟨d, 1, none⟩ = some (.slice (some ⟨tb, 0, none⟩) (64 * k) ct)) := Lib.hid (cellW HDC.out (WB.out.trans (B4.out.mono WB.out.size)))
  (try rw [hw4])
  (try rw [hs])
  clear hw4 hs hb3 hn3 hcr4 HB3 HN3 HCR4
  refine wp_region_noPanic ?_
  refine wp_region_held_drew (S := (fun W => W.cell? ⟨s, 0, none⟩ = some (.int .u64 e) ∧ W.cell? ⟨s, 1, none⟩ = some (.slice (some ⟨g, 0, none⟩) cs.length cv) ∧ W.cell? ⟨s, 2, none⟩ = some (.slice none 0 0) ∧ W.cell? ⟨d, 1, none⟩ = some (.slice (some ⟨tb, 0, none⟩) (64 * k) ct))) (by kernel_rfl) ?_ (fun hHeld => ?_)
  · exact ⟨V0.out, V1.out, V2.out, DC.out⟩
  refine wpAnyH_take (i := 0) (oi := { dst := some 28, op := Op.move (Operand.tmp 7), type := 51, pos := "super.go:115", after := #[], guard := none }) (v := ?_) rfl (by kernel_rfl) (by kernel_rfl) (by kernel_rfl) (fun _ _ _ h => h) (Or.inl ⟨by rfl, ?_⟩) (by assumption) ?_
  rotate_left
  · (intro w hSw; (try dsimp only at hSw); go_simp; try with_reducible rfl)
  try simp only [Act.put, List.setIfInBounds_toArray, List.set_cons_zero, List.set_cons_succ]
  refine wpAnyH_take (i := 1) (oi := { dst := some 29, op := Op.binOp BinOp.neq 51 (Operand.tmp 28) (Operand.const (Value.int IntKind.i64 0)) 51, type := 4, pos := "super.go:115", after := #[{ on := 0, ground := Ground.data }], guard := none }) (v := ?_) rfl (by kernel_rfl) (by kernel_rfl) (by kernel_rfl) (fun _ _ _ h => h) (Or.inl ⟨by rfl, ?_⟩) (by assumption) ?_
  rotate_left
  · (intro w hSw; (try dsimp only at hSw); go_simp; try with_reducible rfl)
  try simp only [Act.put, List.setIfInBounds_toArray, List.set_cons_zero, List.set_cons_succ]
  refine wpAnyH_take (i := 2) (oi := { dst := some 30, op := Op.move (Operand.tmp 29), type := 4, pos := "super.go:115", after := #[{ on := 1, ground := Ground.data }], guard := none }) (v := ?_) rfl (by kernel_rfl) (by kernel_rfl) (by kernel_rfl) (fun _ _ _ h => h) (Or.inl ⟨by rfl, ?_⟩) (by assumption) ?_
  rotate_left
  · (intro w hSw; (try dsimp only at hSw); go_simp; try with_reducible rfl)
  try simp only [Act.put, List.setIfInBounds_toArray, List.set_cons_zero, List.set_cons_succ]
  refine wpAnyH_take (i := 3) (oi := { dst := some 31, op := Op.load 48 (Operand.tmp 8), type := 48, pos := "super.go:115", after := #[{ on := 2, ground := Ground.guard }], guard := some (2, false) }) (v := ?_) rfl (by kernel_rfl) (by kernel_rfl) (by kernel_rfl) (fun _ _ _ h => h) (Or.inl ⟨by rfl, ?_⟩) (by assumption) ?_
  rotate_left
  · (intro w hSw; (try dsimp only at hSw); go_simp; try with_reducible rfl)
  try simp only [Act.put, List.setIfInBounds_toArray, List.set_cons_zero, List.set_cons_succ]
  refine wpAnyH_take (i := 4) (oi := { dst := some 32, op := Op.move (Operand.tmp 0), type := 63, pos := "super.go:115", after := #[{ on := 2, ground := Ground.guard }], guard := some (2, false) }) (v := ?_) rfl (by kernel_rfl) (by kernel_rfl) (by kernel_rfl) (fun _ _ _ h => h) (Or.inl ⟨by rfl, ?_⟩) (by assumption) ?_
  rotate_left
  · (intro w hSw; (try dsimp only at hSw); go_simp; try with_reducible rfl)
  try simp only [Act.put, List.setIfInBounds_toArray, List.set_cons_zero, List.set_cons_succ]
  refine wpAnyH_ready (rs := [5]) (by kernel_rfl) (by simp) ?_
  refine AllReadyH.cons (o := { dst := some 33, op := Op.call { callee := Callee.value (Operand.func 74), args := #[Operand.tmp 32], argTypes := #[63] }, type := 3, pos := "super.go:115", after := #[{ on := 4, ground := Ground.data }, { on := 2, ground := Ground.chain }, { on := 2, ground := Ground.guard }], guard := some (2, false) }) rfl (fun K hK => ?_) AllReadyH.nil
  go_simp
  refine (Try.blocks d (64 * k) ct _ h16 _ (cellW DC.out (Below.refl _ w4).drew)).mono ?_
  rintro x5 w5 ⟨rfl, rfl⟩
  rw [hq]
  refine hK.out _ _ ?_ (fun hHeld => ?_)
  · assumption
  clear hK K
  try simp only [Act.put, List.setIfInBounds_toArray, List.set_cons_zero, List.set_cons_succ]
  refine wpAnyH_ready (rs := [6]) (by kernel_rfl) (by simp) ?_
  refine AllReadyH.cons (o := { dst := some 34, op := Op.call { callee := Callee.value (Operand.func 8), args := #[Operand.tmp 31, Operand.tmp 33], argTypes := #[48, 3] }, type := 51, pos := "super.go:115", after := #[{ on := 3, ground := Ground.data }, { on := 5, ground := Ground.data }, { on := 5, ground := Ground.chain }, { on := 2, ground := Ground.guard }], guard := some (2, false) }) rfl (fun K hK => ?_) AllReadyH.nil
  go_simp
  refine (Try.footCheck _ e he0 (HCR.out.below ((Below.refl _ w4).drew)) HOK.out k).mono ?_
  rintro x6 w6 ⟨rfl, hb6⟩
  have B6 : Hid (Below w4.heap.size w4 w6) := Lib.hid ((Below.refl _ w4).drew.trans hb6)
  clear hb6
  refine hK.out _ _ ?_ (fun hHeld => ?_)
  · exact ⟨cellW V0.out B6.out, cellW V1.out B6.out, cellW V2.out B6.out, cellW DC.out B6.out⟩
  clear hK K
  try simp only [Act.put, List.setIfInBounds_toArray, List.set_cons_zero, List.set_cons_succ]
  refine wpAnyH_take (i := 7) (oi := { dst := some 35, op := Op.binOp BinOp.neq 51 (Operand.tmp 34) (Operand.const (Value.int IntKind.i64 0)) 51, type := 4, pos := "super.go:115", after := #[{ on := 6, ground := Ground.data }, { on := 2, ground := Ground.guard }], guard := some (2, false) }) (v := ?_) rfl (by kernel_rfl) (by kernel_rfl) (by kernel_rfl) (fun _ _ _ h => h) (Or.inl ⟨by rfl, ?_⟩) (by assumption) ?_
  rotate_left
  · (intro w hSw; (try dsimp only at hSw); go_simp; try with_reducible rfl)
  try simp only [Act.put, List.setIfInBounds_toArray, List.set_cons_zero, List.set_cons_succ]
  refine wpAnyH_take (i := 8) (oi := { dst := some 36, op := Op.pick (Operand.tmp 30) (Operand.const (Value.bool true)) (Operand.tmp 35), type := 4, pos := "super.go:115", after := #[{ on := 2, ground := Ground.data }, { on := 7, ground := Ground.data }], guard := none }) (v := ?_) rfl (by kernel_rfl) (by kernel_rfl) (by kernel_rfl) (fun _ _ _ h => h) (Or.inl ⟨by rfl, ?_⟩) (by assumption) ?_
  rotate_left
  · (intro w hSw; (try dsimp only at hSw); go_simp; try with_reducible rfl)
  try simp only [Act.put, List.setIfInBounds_toArray, List.set_cons_zero, List.set_cons_succ]
  refine wpAnyH_done (by kernel_rfl) ?_ _
  refine NoPanic.normal ?_
  have HS6 : Hid (w6.heap[s]? = some (.cells #[.int .u64 e, .slice (some ⟨g, 0, none⟩) cs.length cv, .slice none 0 0] 48 (0, 0))) := Lib.hid ((B6.out.block s (Go.NR.heap_lt HS4.out)).trans HS4.out)
  have B7 := Lib.hid (B4.out.trans (B6.out.mono B4.out.size))
  have hzl := Go.NR.heap_lt HZ.out
  have HCR6 := Lib.hid (HCR.out.below B6.out)
  have W0 := cell_of_row w6 s 0 _ 48 _ HS6.out
  have W1 := cell_of_row w6 s 1 _ 48 _ HS6.out
  have W2 := cell_of_row w6 s 2 _ 48 _ HS6.out
  simp at W0 W1 W2
  clear hHeld V0 V1 V2 DC HS4
  go_wp2_with fail
  refine (Try.used0 w6 e (.slice (some ⟨g, 0, none⟩) cs.length cv) rfl).mono ?_
  rintro x w7 ⟨rfl, hb7⟩
  have HS7 : Hid (w7.heap[s]? = some (.cells #[.int .u64 e, .slice (some ⟨g, 0, none⟩) cs.length cv, .slice none 0 0] 48 (0, 0))) := Lib.hid ((hb7.block s (Go.NR.heap_lt HS6.out)).trans HS6.out)
  have B8 := Lib.hid (B7.out.trans (hb7.mono B7.out.size))
  have HCR7 := Lib.hid (HCR6.out.below hb7)
  have HZ7 : Hid (w7.heap[z]? = some (.cells foot0 48 (0, 0))) := Lib.hid ((B8.out.block z hzl).trans HZ.out)
  clear hb7 W0 W1 W2 B7 HCR6 HS6 hzl
  obtain ⟨C, hC⟩ : ∃ C : Array Value, #[.int .u64 e, .slice (some ⟨g, 0, none⟩) cs.length cv, .slice none 0 0] = C := ⟨_, rfl⟩
  have HS : Hid (some 3 = some C.size) := Lib.hid (by rw [← hC]; rfl)
  have HONE : Hid (∀ u ∈ C.toList, u.oneCell' = true) := Lib.hid (by
    rw [← hC]
    intro u hu
    simp at hu
    rcases hu with rfl | rfl | rfl <;> rfl)
  have HNEW : Hid ((foot0.toList.take 0 ++ C.toList ++ foot0.toList.drop (0 + C.size)).toArray = C) := Lib.hid (by rw [← hC]; rfl)
  have HSZ : Hid (0 + C.size ≤ foot0.size) := Lib.hid (by rw [← hC]; exact Nat.le_refl 3)
  rw [hC] at HS7
  have HC := Lib.hid hC
  clear hC
  go_wp2_with fail
  go_loop [41] (fun t => t = .int .i64 0) (fun _ => 0)
  case atStart => rfl
  case round =>
    subst hrel
    go_wp2_with (first
      | (refine wpList_load_row w7 rfl 48 (.tmp 8) rfl s 48 C _ rfl HS7.out (size48.trans HS.out) st48 ?_)
      | (refine wpList_store_at w7 rfl 48 (.tmp 4) (.tmp 50) rfl z 48 0 C foot0 C rfl rfl HZ7.out HSZ.out HNEW.out (size48.trans HS.out) HONE.out ?_))
    refine bodyPost_ret (results_cell_tmp rfl _ _ z 48 C _ rfl (setRow_heap' _ z _ _ 48 HZ7.out) (size48.trans HS.out) st48) rfl ?_
    refine ⟨g, cv, ?_, ?_, WB.out.trans (Below.setRow (B8.out.mono WB.out.size) HZ0.out _), ?_⟩
    · rw [HC.out]; rfl
    · have hgz : g ≠ z := fun q => by
        have := Go.NR.heap_lt HZ.out
        have := HGZ.out
        omega
      obtain ⟨k1, k2, k3, k4⟩ := HCR7.out
      refine ⟨k1, k2, k3, fun j q hj => ?_⟩
      obtain ⟨g', e1, c1, c2⟩ := k4 j q hj
      cases e1
      refine ⟨g, rfl, ?_, ?_⟩
      · exact (World.cell?_of_block (Go.NR.setRow_else w7 z _ g hgz)).trans c1
      · exact (World.cell?_of_block (Go.NR.setRow_else w7 z _ g hgz)).trans c2
    · have := HGZ.out
      have := WB.out.size
      omega
end Go.Proofs.Ytfblhcphbcghpaa
end

section
namespace Go.Proofs.Ytfblhcphbcghpaa
open Go.RowKit
set_option maxRecDepth 100000
def FAt0 (w : World) (x : Ending) (w' : World) : Prop := x = .returned (.tuple #[.agg foot0, .bool false]) ∧ Below w.heap.size w w'
end Go.Proofs.Ytfblhcphbcghpaa
end

section
namespace Go.Proofs.Ytfblhcphbcghpaa
open Go.RowKit
open Go.NR (wpList_app own_below)
set_option maxRecDepth 100000
def UnX (w : World) (x : Ending) (w' : World) : Prop := x = .returned (.tuple #[.slice none 0 0, .int .i64 12]) ∧ Below w.heap.size w w'
set_option maxHeartbeats 8000000 in
theorem Try.unwrapX (w : World) {A : Option Addr} {c : Nat} {l : List UInt8} (hD : DI w A 64 c l) (hne : num4 l ≠ sumS (l.drop 4)) : Calls Try.prog 93 #[.slice A 64 c] w (UnX w) := by
  have hle := hD.le
  have hmx := hD.max
  obtain ⟨b, o, rfl⟩ := hD.place (by omega)
  have hD2 := hD.cut 4 60 (c - 4) (by omega) (by omega) (by omega)
  rw [List.take_of_length_le (by rw [List.length_drop, hD.len]; omega)] at hD2
  obtain ⟨s, hs⟩ : ∃ s, sumS (l.drop 4) = s := ⟨_, rfl⟩
  obtain ⟨m, hm⟩ : ∃ m, num4 l = m := ⟨_, rfl⟩
  rw [hs, hm] at hne
  have d4' : (s != m) = true := by simp; omega
  have d5' : decide (s = m) = false := decide_eq_false (by omega)
  have H0 := Lib.hid hD
  have H2 := Lib.hid hD2
  have HS := Lib.hid hs
  have HM := Lib.hid hm
  have HNE := Lib.hid hne
  clear hD hD2 hs hm hne hmx
  go_enter Try.func93, Try.ntmps93
  go_wp2_with fail
  refine (Try.get4v w H0.out (by omega) (by omega)).mono ?_
  rintro x w1 ⟨rfl, hh1, hb1⟩
  rw [HM.out]
  have B1 := Lib.hid hb1
  have D1 := Lib.hid (H2.out.below hb1)
  clear hh1 hb1
  go_wp2_with fail
  refine (sum_by Try.sum w1 _ _ _ _ D1.out (by omega)).mono ?_
  rintro x w2 ⟨rfl, hw2⟩
  rw [hw2, HS.out]
  clear hw2 w2
  go_wp2_with fail
  go_ret2
  exact ⟨rfl, B1.out⟩
set_option maxHeartbeats 4000000 in
theorem Try.preadX {w : World} {F : Nat → Prop} {d k : Nat} {L T : List UInt8} {Q : List (Nat × List UInt8)} (hd : DV w F d k L T Q) (at' n : Nat) (h1 : n = 1) (hfit : at' + n ≤ k) (hpg : num4 (cat T at' n) ≠ sumS ((cat T at' n).drop 4)) :
    Calls Try.prog 85 #[.pointer (some ⟨d, 0, none⟩), .int .i64 at', .int .i64 n] w (UnX w) := by
  have HD := Lib.hid hd
  obtain ⟨hk, hTl⟩ : k ≤ 1024 ∧ T.length = 64 * k := by
    obtain ⟨lb, cl, tb, ct, vw, ds, h⟩ := hd
    exact ⟨h.hk, h.Tl⟩
  have HTL := Lib.hid hTl
  have HPG := Lib.hid hpg
  have HN1 := Lib.hid h1
  have h1' : 1 ≤ n := by omega
  clear hd hTl hpg h1
  have H0 : Hid (RPR w T at' 0 (.slice none 0 0) w) := Lib.hid ⟨by simpa [cat] using World.ownsRow_nil w w.heap.size 5 1, Below.refl _ _, fun h => absurd h (Nat.lt_irrefl _)⟩
  go_enter Try.func85, Try.ntmps85
  go_wp2
  refine Go.NR.wp_scope_once 0 (fun a' wr => ∃ (i : Nat) (v : Value), i ≤ n ∧ RPR w T at' i v wr ∧ ∃ u10 u11 u12 u13 u14 u15 u16 u17 u18 u19 u20 u21 u22 u23 u24 u25 u26 u27 u28 u29 u30 u31 u32 u33 u34 u35 u36 u37 u38 u39 : Value, a' = { tmps := #[.pointer (some ⟨d, 0, none⟩), .int .i64 at', .int .i64 n, undef, undef, undef, .slice none 0 0, .int .i64 0, v, .int .i64 i, u10, u11, u12, u13, u14, u15, u16, u17, u18, u19, u20, u21, u22, u23, u24, u25, u26, u27, u28, u29, u30, u31, u32, u33, u34, u35, u36, u37, u38, u39], defers := [] }) (fun a' _ => n - (intOf (a'.tmps.getD 9 undef)).toNat) rfl ?_ ?_
  · intro hL
    go_wp2_with fail
    refine (Try.there_yes (HD.out) at' n (by omega)).mono ?_
    rintro e w2 ⟨rfl, rfl⟩
    go_wp2_with (refine wp_label ?_; rename_i Q0 K0 hK; refine hK _ _ (hL _ _ ?_); exact ⟨0, _, Nat.zero_le _, H0.out, _, _, _, _, _, _, _, _, _, _, _, _, _, _, _, _, _, _, _, _, _, _, _, _, _, _, _, _, _, _, rfl⟩)
  · rintro a' wr ⟨i, v, hi, hp, u10, u11, u12, u13, u14, u15, u16, u17, u18, u19, u20, u21, u22, u23, u24, u25, u26, u27, u28, u29, u30, u31, u32, u33, u34, u35, u36, u37, u38, u39, rfl⟩
    by_cases hlt : i < n
    · have hD : ((i : Int) == n) = false := by simp; omega
      have hD2 : decide ((i : Int) = n) = false := by simp; omega
      have hD3 : decide (i = n) = false := by simp; omega
      have HP := Lib.hid hp
      clear hp
      go_wp2_with fail
      have hidx : ((at' : Int) + (i : Int)) = ((at' + i : Nat) : Int) := rfl
      rw [hidx]
      obtain ⟨lb, cl, tb, ct, vw, ds, hdw⟩ := DV.below HD.out (HP.out).bel
      refine (Try.read_good hdw (at' + i) (by omega)).mono ?_
      rintro e w1 ⟨b, c, rfl, z1, z2, z3, z4⟩
      have hown : w1.ownsRow w.heap.size 5 1 v (64 * i) ((cat T at' i).map u8v) := own_below (HP.out).own z4
      have hB1 := Lib.hid ((HP.out).bel.trans (z4.mono (HP.out).bel.size))
      have hsz := (HP.out).bel.size
      have hsz1 := (hB1.out).size
      have hall := z3.all
      have hl64 : ((T.drop ((at' + i) * 64)).take 64).length = 64 := by rw [List.length_take, List.length_drop, HTL.out]; omega
      have hcs := cat_succ T at' i
      generalize (T.drop ((at' + i) * 64)).take 64 = X at hall hl64 hcs
      have HL64 : Hid ((X.map u8v).length = 64 * 1) := Lib.hid (by rw [List.length_map, hl64])
      have HCS := Lib.hid hcs
      have H1 := Lib.hid (u8v_one X)
      have hall' : ∀ j u, (X.map u8v)[j]? = some u → w1.cell? ⟨b, j, none⟩ = some u := fun j u hj => by have := hall j u hj; rwa [Addr.add_lit, Nat.zero_add] at this
      have HG : Hid (∀ kk, v.ownBlock = some kk → w.heap.size ≤ kk) := Lib.hid (fun kk hkk => by
        rcases hown.2 with ⟨rfl, _⟩ | ⟨g, cap, cur, rfl, hg, _⟩
        · simp [Value.ownBlock] at hkk
        · simp [Value.ownBlock] at hkk; omega)
      have HO := Lib.hid hown
      have HA := Lib.hid hall'
      obtain ⟨xs, hxs⟩ : ∃ xs, X.map u8v = xs := ⟨_, rfl⟩
      rw [hxs] at HL64 H1 HA
      have HXS := Lib.hid hxs
      clear hdw hidx HP hl64 hcs z1 z2 z3 z4 hall hall' hown hxs
      go_wp2_with (refine wpList_app Try.E50 rfl (.tmp 35) (.tmp 36) rfl w.heap.size v (64 * i) ((cat T at' i).map u8v) rfl HO.out b 64 c xs rfl HL64.out HA.out H1.out (by omega) (by omega) ?_)
      intro v' w2 hown1 hg
      have hv : v' ≠ .slice none 0 0 := by
        rintro rfl
        rcases hown1.2 with ⟨_, h⟩ | ⟨_, _, _, h, _⟩
        · omega
        · cases h
      have hb2 : Below w.heap.size w w2 := (hB1.out).grown hg (hB1.out).size (HG.out)
      rw [← HXS.out, ← List.map_append, HCS.out] at hown1
      have HN : Hid (RPR w T at' (i + 1) v' w2) := Lib.hid ⟨hown1, hb2, fun _ => hv⟩
      clear hown1 hg hv hb2
      go_wp2
      go_step3
      exact ⟨rfl, ⟨i + 1, _, hlt, HN.out, _, _, _, _, _, _, _, _, _, _, _, _, _, _, _, _, _, _, _, _, _, _, _, _, _, _, _, _, _, _, rfl⟩, by simp [intOf]; omega⟩
    · obtain rfl : i = n := by omega
      obtain ⟨_, b, c, rfl, _, q1, q2⟩ := BY.own hp.own (hp.nn (by omega))
      have HB := Lib.hid hp.bel
      have HCL := cat_len HTL.out hfit
      obtain rfl : i = 1 := HN1.out
      have HDI : Hid (DI wr (some ⟨b, 0, none⟩) 64 c (cat T at' 1)) := Lib.hid (q2.di 64 q1 HCL)
      clear hp q2 HCL
      go_wp2_with fail
      refine (Try.unwrapX _ HDI.out HPG.out).mono ?_
      rintro e w2 ⟨rfl, x1⟩
      have X1 := Lib.hid x1
      clear x1
      go_wp2
      simp only [Exit.jump]
      go_ret2
      exact ⟨rfl, (HB.out).trans ((X1.out).mono (HB.out).size)⟩
end Go.Proofs.Ytfblhcphbcghpaa
end

section
namespace Go.Proofs.Ytfblhcphbcghpaa
open Go.RowKit
set_option maxRecDepth 100000
set_option maxHeartbeats 8000000 in
theorem Try.footAtX {w : World} {F : Nat → Prop} {d k : Nat} {L T : List UInt8} {Q : List (Nat × List UInt8)} (hd : DV w F d k L T Q) (a n : Nat) (h1 : n = 1) (hfit : a + n ≤ k) (hpg : num4 (cat T a n) ≠ sumS ((cat T a n).drop 4)) :
    Calls Try.prog 78 #[.pointer (some ⟨d, 0, none⟩), .agg #[.int .i64 a, .int .i64 n]] w (FAt0 w) := by
  have hb1 := (Below.refl w.heap.size w).alloc (Nat.le_refl _) (.cells #[.int .i64 a, .int .i64 n] 60)
  have hn1 := heap_alloc_new w (.cells #[.int .i64 a, .int .i64 n] 60)
  obtain ⟨wa, hwa⟩ : ∃ wa, w.alloc (.cells #[.int .i64 a, .int .i64 n] 60) = wa := ⟨_, rfl⟩
  obtain ⟨bx, hbx⟩ : ∃ bx, w.heap.size = bx := ⟨_, rfl⟩
  rw [hwa] at hb1 hn1
  rw [hbx] at hn1
  have hb2 := hb1.trans (((Below.refl wa.heap.size wa).alloc (Nat.le_refl _) (.cells foot0 48)).mono hb1.size)
  have hn2 := heap_alloc_new wa (.cells foot0 48)
  have hk2 := ((Below.refl wa.heap.size wa).alloc (Nat.le_refl _) (.cells foot0 48)).block bx (Go.NR.heap_lt hn1)
  obtain ⟨w0, hw0⟩ : ∃ w0, wa.alloc (.cells foot0 48) = w0 := ⟨_, rfl⟩
  obtain ⟨z, hz⟩ : ∃ z, wa.heap.size = z := ⟨_, rfl⟩
  rw [hw0] at hb2 hn2 hk2
  rw [hz] at hn2
  have X0 := cell_of_row w0 bx 0 _ 60 _ (hk2.trans hn1)
  have X1 := cell_of_row w0 bx 1 _ 60 _ (hk2.trans hn1)
  simp at X0 X1
  have HZ := Lib.hid hn2
  have WB := Lib.hid hb2
  have HD := Lib.hid (DV.below hd hb2)
  have HZ0 : Hid (w.heap.size ≤ z) := Lib.hid (by have := hb1.size; omega)
  have HPG := Lib.hid hpg
  have HN1 := Lib.hid h1
  clear hb1 hb2 hn1 hn2 hk2 hd hpg h1
  go_enter Try.func78, Try.ntmps78
  unfold foot0 at hw0
  go_upto_region 1 with fail
  (try rw [hwa])
  (try rw [hw0])
  clear hwa hw0 hz hbx
  go_wp2_with fail
  refine (Try.preadX HD.out a n HN1.out hfit HPG.out).mono ?_
  rintro x w1 ⟨rfl, hb1⟩
  have B1 := Lib.hid hb1
  have HZ1 : Hid (w1.heap[z]? = some (.cells foot0 48 (0, 0))) := Lib.hid ((hb1.block z (Go.NR.heap_lt HZ.out)).trans HZ.out)
  clear hb1 X0 X1
  go_wp2_with (refine wpList_store_at w1 rfl 48 (.tmp 4) (.tmp 22) rfl z 48 0 foot0 foot0 foot0 rfl rfl HZ1.out (show 0 + 3 ≤ 3 by omega) rfl size48 foot0_one ?_)
  refine bodyPost_ret (results_cell_tmp rfl _ _ z 48 foot0 _ rfl (setRow_heap' _ z _ _ 48 HZ1.out) size48 st48) rfl ?_
  exact ⟨rfl, WB.out.trans (Below.setRow (B1.out.mono WB.out.size) HZ0.out _)⟩
end Go.Proofs.Ytfblhcphbcghpaa
end

section
namespace Go.Proofs.Ytfblhcphbcghpaa
open Go.RowKit Go.FM
set_option maxRecDepth 100000
theorem results_cell2_tmp {P : Program} {fn : Func} {c c' u : Tmp} {t t' : TypeId} (h : fn.results = #[.cell c t, .cell c' t', .tmp u]) (tmps : Array Value) (w : World) (b b' e e' : Nat) (cs cs' : Array Value) (fs fs' : Array Field) (ht : tmps.getD c undef = .pointer (some ⟨b, 0, none⟩)) (ht' : tmps.getD c' undef = .pointer (some ⟨b', 0, none⟩)) (hh : w.heap[b]? = some (.cells cs e (0, 0))) (hh' : w.heap[b']? = some (.cells cs' e' (0, 0)))
    (hq : (P.info? t).map (·.size) = some cs.size) (hq' : (P.info? t').map (·.size) = some cs'.size) (hu : P.underlying t = some (.struct fs)) (hu' : P.underlying t' = some (.struct fs')) : (results fn tmps).run P w = .ok (.tuple #[.agg cs, .agg cs', tmps.getD u undef]) w := by
  have hl : ∀ (b e : Nat) (cs : Array Value), w.heap[b]? = some (.cells cs e (0, 0)) → (loadCells ⟨b, 0, none⟩ cs.size).run P w = .ok cs w := by
    intro b e cs hh
    have := run_loadCells_list (P := P) w ⟨b, 0, none⟩ cs.toList (fun j v hj => by
      have e : (⟨b, 0, none⟩ : Addr).add j = ⟨b, j, none⟩ := by unfold Addr.add; split <;> simp_all
      rw [e, cell_of_row w b j _ _ _ hh, ← hj]
      simp)
    simpa using this
  have ht2 : tmps[c]?.getD undef = .pointer (some ⟨b, 0, none⟩) := by simpa using ht
  have ht3 : tmps[c']?.getD undef = .pointer (some ⟨b', 0, none⟩) := by simpa using ht'
  simp [results, h, ht2, ht3, asAddr, loadVar, isAgg_run w hu, isAgg_run w hu', sizeOf_run w hq, sizeOf_run w hq', hl _ _ _ hh, hl _ _ _ hh']
def blk (T : List UInt8) (i : Nat) : List UInt8 := (T.drop (i * 64)).take 64
theorem blk_len {w : World} {F : Nat → Prop} {d k i : Nat} {L T : List UInt8} {Q : List (Nat × List UInt8)} (hd : DV w F d k L T Q) (hi : i < k) : (blk T i).length = 64 := by
  obtain ⟨lb, cl, tb, ct, vw, ds, h⟩ := hd
  have := h.Tl
  unfold blk
  rw [List.length_take, List.length_drop, this]
  omega
theorem oneF (e g n c : Nat) : ∀ u ∈ (#[Value.int .u64 (e : Int), .slice (some ⟨g, 0, none⟩) n c, .slice none 0 0] : Array Value).toList, u.oneCell' = true := by
  intro u hu
  simp at hu
  rcases hu with rfl | rfl | rfl <;> rfl
def LookNo (w : World) (x : Ending) (w' : World) : Prop := x = .returned (.tuple #[.agg zero3, .agg foot0, .bool false]) ∧ Below w.heap.size w w'
def LookOk (w : World) (e a n : Nat) (cs : List (List UInt8 × Int)) (x : Ending) (w' : World) : Prop := ∃ g c, x = .returned (.tuple #[.agg #[.int .u64 e, .int .i64 a, .int .i64 n], .agg #[.int .u64 e, .slice (some ⟨g, 0, none⟩) cs.length c, .slice none 0 0], .bool true]) ∧ CR w' (some ⟨g, 0, none⟩) cs.length c cs ∧ Below w.heap.size w w' ∧ w.heap.size ≤ g
set_option maxHeartbeats 8000000 in
theorem Try.look0 {w : World} {F : Nat → Prop} {d k i : Nat} {L T : List UInt8} {Q : List (Nat × List UInt8)} (hd : DV w F d k L T Q) (hi : i < k) (hsup : supG (blk T i) = none) :
    Calls Try.prog 53 #[.pointer (some ⟨d, 0, none⟩), .int .i64 i] w (LookNo w) := by
  have hdw' := hd
  obtain ⟨lb0, cl0, tb, ct, vw0, ds0, hdw0⟩ := hdw'
  have hk := hdw0.hk
  have h16 : 64 * k ≤ 65536 := by omega
  have hq : 64 * k / 64 = k := by omega
  have HDC := Lib.hid hdw0.c1
  clear hdw0
  have hb1 := (Below.refl w.heap.size w).alloc (Nat.le_refl _) (.cells zero3 70)
  have hn1 := heap_alloc_new w (.cells zero3 70)
  obtain ⟨wa, hwa⟩ : ∃ wa, w.alloc (.cells zero3 70) = wa := ⟨_, rfl⟩
  obtain ⟨z4, hz4⟩ : ∃ z4, w.heap.size = z4 := ⟨_, rfl⟩
  rw [hwa] at hb1 hn1
  rw [hz4] at hn1
  have hb2 := hb1.trans (((Below.refl wa.heap.size wa).alloc (Nat.le_refl _) (.cells foot0 48)).mono hb1.size)
  have hn2 := heap_alloc_new wa (.cells foot0 48)
  have hk2 := (((Below.refl wa.heap.size wa).alloc (Nat.le_refl _) (.cells foot0 48)).block z4 (Go.NR.heap_lt hn1)).trans hn1
  obtain ⟨w0, hw0⟩ : ∃ w0, wa.alloc (.cells foot0 48) = w0 := ⟨_, rfl⟩
  obtain ⟨z5, hz5⟩ : ∃ z5, wa.heap.size = z5 := ⟨_, rfl⟩
  rw [hw0] at hb2 hn2 hk2
  rw [hz5] at hn2
  have HZZ : Hid (z4 < z5 ∧ w.heap.size = z4 ∧ z5 < w0.heap.size) := Lib.hid ⟨by have := Go.NR.heap_lt hn1; omega, hz4, Go.NR.heap_lt hn2⟩
  have HZA := Lib.hid hk2
  have HZB := Lib.hid hn2
  have WB := Lib.hid hb2
  have HD := Lib.hid (DV.below hd hb2)
  have HI := Lib.hid hi
  clear hb1 hb2 hn1 hn2 hk2 hd hi
  go_enter Try.func53, Try.ntmps53
  unfold foot0 at hw0
  unfold zero3 at hwa
  go_upto_region 1 with fail
  (try rw [hwa])
  (try rw [hw0])
  clear hwa hw0 hz4 hz5
  go_wp2_with fail
  obtain ⟨lb, cl, tb1, ct1, vw, ds, hdw⟩ := HD.out
  refine (Try.read_good hdw i (by have := HI.out; omega)).mono ?_
  rintro x w1 ⟨b, c, rfl, z1, z2, z3, hb1⟩
  clear hdw lb cl tb1 ct1 vw ds
  have HDI : Hid (DI w1 (some ⟨b, 0, none⟩) 64 c (blk T i)) := Lib.hid (z3.di 64 z2 (blk_len HD.out HI.out))
  have B1 := Lib.hid hb1
  clear z1 z2 z3 hb1
  go_wp2_with fail
  refine (Try.sget w1 HDI.out (by omega)).mono ?_
  rintro x w2 ⟨hb2, hx⟩
  have B2 := Lib.hid (B1.out.trans (hb2.mono B1.out.size))
  have hx' : x = .returned (.tuple #[.agg #[.int .u64 0, .int .i64 0, .int .i64 0], .int .i64 12]) := by
    rcases hx with ⟨e1, a1, n1, h, _, rfl⟩ | ⟨_, h⟩
    · rw [hsup] at h
      cases h
    · exact h
  subst hx'
  clear hb2 hx B1 HDI hsup
  have HB3 := Lib.hid ((Below.refl w2.heap.size w2).alloc (Nat.le_refl _) (.cells #[.int .u64 0, .int .i64 0, .int .i64 0] 70))
  go_upto_region 5 with fail
  obtain ⟨w4, hw4⟩ : ∃ w4, w2.alloc (.cells #[.int .u64 0, .int .i64 0, .int .i64 0] 70) = w4 := ⟨_, rfl⟩
  have hb3 := HB3.out
  rw [hw4] at hb3
  rw [hw4]
  have B4 := Lib.hid (B2.out.trans (hb3.mono B2.out.size))
  clear hw4 hb3 HB3
  refine wp_region_noPanic ?_
  refine wp_region_held_drew (S := (fun _ => True)) (by kernel_rfl) ?_ (fun hHeld => ?_)
  · trivial
  refine wpAnyH_take (i := 0) (oi := { dst := some 27, op := Op.move (Operand.tmp 8), type := 51, pos := "super.go:98", after := #[], guard := none }) (v := ?_) rfl (by kernel_rfl) (by kernel_rfl) (by kernel_rfl) (fun _ _ _ h => h) (Or.inl ⟨by rfl, ?_⟩) (by assumption) ?_
  rotate_left
  · (intro w hSw; (try dsimp only at hSw); go_simp; try with_reducible rfl)
  try simp only [Act.put, List.setIfInBounds_toArray, List.set_cons_zero, List.set_cons_succ]
  refine wpAnyH_take (i := 1) (oi := { dst := some 28, op := Op.binOp BinOp.neq 51 (Operand.tmp 27) (Operand.const (Value.int IntKind.i64 0)) 51, type := 4, pos := "super.go:98", after := #[{ on := 0, ground := Ground.data }], guard := none }) (v := ?_) rfl (by kernel_rfl) (by kernel_rfl) (by kernel_rfl) (fun _ _ _ h => h) (Or.inl ⟨by rfl, ?_⟩) (by assumption) ?_
  rotate_left
  · (intro w hSw; (try dsimp only at hSw); go_simp; try with_reducible rfl)
  try simp only [Act.put, List.setIfInBounds_toArray, List.set_cons_zero, List.set_cons_succ]
  refine wpAnyH_take (i := 2) (oi := { dst := some 29, op := Op.move (Operand.tmp 28), type := 4, pos := "super.go:98", after := #[{ on := 1, ground := Ground.data }], guard := none }) (v := ?_) rfl (by kernel_rfl) (by kernel_rfl) (by kernel_rfl) (fun _ _ _ h => h) (Or.inl ⟨by rfl, ?_⟩) (by assumption) ?_
  rotate_left
  · (intro w hSw; (try dsimp only at hSw); go_simp; try with_reducible rfl)
  try simp only [Act.put, List.setIfInBounds_toArray, List.set_cons_zero, List.set_cons_succ]
  refine wpAnyH_take (i := 3) (oi := { dst := some 30, op := Op.fieldAddr 70 (Operand.tmp 9) 0, type := 0, pos := "super.go:98", after := #[{ on := 2, ground := Ground.guard }], guard := some (2, false) }) (v := undef) rfl (by kernel_rfl) (by kernel_rfl) (by kernel_rfl) (fun _ _ _ h => h) (Or.inr ⟨by rfl, rfl⟩) (by assumption) ?_
  try simp only [Act.put, List.setIfInBounds_toArray, List.set_cons_zero, List.set_cons_succ]
  refine wpAnyH_take (i := 4) (oi := { dst := some 31, op := Op.load 23 (Operand.tmp 30), type := 23, pos := "super.go:98", after := #[{ on := 3, ground := Ground.data }, { on := 2, ground := Ground.guard }], guard := some (2, false) }) (v := undef) rfl (by kernel_rfl) (by kernel_rfl) (by kernel_rfl) (fun _ _ _ h => h) (Or.inr ⟨by rfl, rfl⟩) (by assumption) ?_
  try simp only [Act.put, List.setIfInBounds_toArray, List.set_cons_zero, List.set_cons_succ]
  refine wpAnyH_take (i := 5) (oi := { dst := some 32, op := Op.call { callee := Callee.value (Operand.func 43), args := #[Operand.tmp 31], argTypes := #[23] }, type := 3, pos := "super.go:98", after := #[{ on := 4, ground := Ground.data }, { on := 2, ground := Ground.chain }, { on := 2, ground := Ground.guard }], guard := some (2, false) }) (v := undef) rfl (by kernel_rfl) (by kernel_rfl) (by kernel_rfl) (fun _ _ _ h => h) (Or.inr ⟨by rfl, rfl⟩) (by assumption) ?_
  try simp only [Act.put, List.setIfInBounds_toArray, List.set_cons_zero, List.set_cons_succ]
  refine wpAnyH_take (i := 6) (oi := { dst := some 33, op := Op.move (Operand.tmp 1), type := 3, pos := "super.go:98", after := #[{ on := 2, ground := Ground.guard }], guard := some (2, false) }) (v := undef) rfl (by kernel_rfl) (by kernel_rfl) (by kernel_rfl) (fun _ _ _ h => h) (Or.inr ⟨by rfl, rfl⟩) (by assumption) ?_
  try simp only [Act.put, List.setIfInBounds_toArray, List.set_cons_zero, List.set_cons_succ]
  refine wpAnyH_take (i := 7) (oi := { dst := some 34, op := Op.binOp BinOp.neq 3 (Operand.tmp 32) (Operand.tmp 33) 3, type := 4, pos := "super.go:98", after := #[{ on := 5, ground := Ground.data }, { on := 6, ground := Ground.data }, { on := 2, ground := Ground.guard }], guard := some (2, false) }) (v := undef) rfl (by kernel_rfl) (by kernel_rfl) (by kernel_rfl) (fun _ _ _ h => h) (Or.inr ⟨by rfl, rfl⟩) (by assumption) ?_
  try simp only [Act.put, List.setIfInBounds_toArray, List.set_cons_zero, List.set_cons_succ]
  refine wpAnyH_take (i := 8) (oi := { dst := some 35, op := Op.pick (Operand.tmp 29) (Operand.const (Value.bool true)) (Operand.tmp 34), type := 4, pos := "super.go:98", after := #[{ on := 2, ground := Ground.data }, { on := 7, ground := Ground.data }], guard := none }) (v := ?_) rfl (by kernel_rfl) (by kernel_rfl) (by kernel_rfl) (fun _ _ _ h => h) (Or.inl ⟨by rfl, ?_⟩) (by assumption) ?_
  rotate_left
  · (intro w hSw; (try dsimp only at hSw); go_simp; try with_reducible rfl)
  try simp only [Act.put, List.setIfInBounds_toArray, List.set_cons_zero, List.set_cons_succ]
  refine wpAnyH_take (i := 9) (oi := { dst := some 36, op := Op.move (Operand.tmp 35), type := 4, pos := "super.go:98", after := #[{ on := 8, ground := Ground.data }, { on := 5, ground := Ground.chain }], guard := none }) (v := ?_) rfl (by kernel_rfl) (by kernel_rfl) (by kernel_rfl) (fun _ _ _ h => h) (Or.inl ⟨by rfl, ?_⟩) (by assumption) ?_
  rotate_left
  · (intro w hSw; (try dsimp only at hSw); go_simp; try with_reducible rfl)
  try simp only [Act.put, List.setIfInBounds_toArray, List.set_cons_zero, List.set_cons_succ]
  refine wpAnyH_take (i := 10) (oi := { dst := some 37, op := Op.fieldAddr 70 (Operand.tmp 9) 1, type := 0, pos := "super.go:98", after := #[{ on := 9, ground := Ground.guard }], guard := some (9, false) }) (v := undef) rfl (by kernel_rfl) (by kernel_rfl) (by kernel_rfl) (fun _ _ _ h => h) (Or.inr ⟨by rfl, rfl⟩) (by assumption) ?_
  try simp only [Act.put, List.setIfInBounds_toArray, List.set_cons_zero, List.set_cons_succ]
  refine wpAnyH_take (i := 11) (oi := { dst := some 38, op := Op.load 60 (Operand.tmp 37), type := 60, pos := "super.go:98", after := #[{ on := 10, ground := Ground.data }, { on := 9, ground := Ground.guard }], guard := some (9, false) }) (v := undef) rfl (by kernel_rfl) (by kernel_rfl) (by kernel_rfl) (fun _ _ _ h => h) (Or.inr ⟨by rfl, rfl⟩) (by assumption) ?_
  try simp only [Act.put, List.setIfInBounds_toArray, List.set_cons_zero, List.set_cons_succ]
  refine wpAnyH_take (i := 12) (oi := { dst := some 39, op := Op.move (Operand.tmp 0), type := 63, pos := "super.go:98", after := #[{ on := 9, ground := Ground.guard }], guard := some (9, false) }) (v := undef) rfl (by kernel_rfl) (by kernel_rfl) (by kernel_rfl) (fun _ _ _ h => h) (Or.inr ⟨by rfl, rfl⟩) (by assumption) ?_
  try simp only [Act.put, List.setIfInBounds_toArray, List.set_cons_zero, List.set_cons_succ]
  refine wpAnyH_take (i := 13) (oi := { dst := some 40, op := Op.call { callee := Callee.value (Operand.func 74), args := #[Operand.tmp 39], argTypes := #[63] }, type := 3, pos := "super.go:98", after := #[{ on := 12, ground := Ground.data }, { on := 9, ground := Ground.chain }, { on := 9, ground := Ground.guard }], guard := some (9, false) }) (v := undef) rfl (by kernel_rfl) (by kernel_rfl) (by kernel_rfl) (fun _ _ _ h => h) (Or.inr ⟨by rfl, rfl⟩) (by assumption) ?_
  try simp only [Act.put, List.setIfInBounds_toArray, List.set_cons_zero, List.set_cons_succ]
  refine wpAnyH_take (i := 14) (oi := { dst := some 41, op := Op.call { callee := Callee.value (Operand.func 77), args := #[Operand.tmp 38, Operand.tmp 40], argTypes := #[60, 3] }, type := 51, pos := "super.go:98", after := #[{ on := 11, ground := Ground.data }, { on := 13, ground := Ground.data }, { on := 13, ground := Ground.chain }, { on := 9, ground := Ground.guard }], guard := some (9, false) }) (v := undef) rfl (by kernel_rfl) (by kernel_rfl) (by kernel_rfl) (fun _ _ _ h => h) (Or.inr ⟨by rfl, rfl⟩) (by assumption) ?_
  try simp only [Act.put, List.setIfInBounds_toArray, List.set_cons_zero, List.set_cons_succ]
  refine wpAnyH_take (i := 15) (oi := { dst := some 42, op := Op.binOp BinOp.neq 51 (Operand.tmp 41) (Operand.const (Value.int IntKind.i64 0)) 51, type := 4, pos := "super.go:98", after := #[{ on := 14, ground := Ground.data }, { on := 9, ground := Ground.guard }], guard := some (9, false) }) (v := undef) rfl (by kernel_rfl) (by kernel_rfl) (by kernel_rfl) (fun _ _ _ h => h) (Or.inr ⟨by rfl, rfl⟩) (by assumption) ?_
  try simp only [Act.put, List.setIfInBounds_toArray, List.set_cons_zero, List.set_cons_succ]
  refine wpAnyH_take (i := 16) (oi := { dst := some 43, op := Op.pick (Operand.tmp 36) (Operand.const (Value.bool true)) (Operand.tmp 42), type := 4, pos := "super.go:98", after := #[{ on := 9, ground := Ground.data }, { on := 15, ground := Ground.data }], guard := none }) (v := ?_) rfl (by kernel_rfl) (by kernel_rfl) (by kernel_rfl) (fun _ _ _ h => h) (Or.inl ⟨by rfl, ?_⟩) (by assumption) ?_
  rotate_left
  · (intro w hSw; (try dsimp only at hSw); go_simp; try with_reducible rfl)
  try simp only [Act.put, List.setIfInBounds_toArray, List.set_cons_zero, List.set_cons_succ]
  refine wpAnyH_done (by kernel_rfl) ?_ _
  refine NoPanic.normal ?_
  obtain ⟨w6, hw6⟩ : ∃ w6, w6 = w4.drew := ⟨_, rfl⟩
  rw [← hw6]
  have HBF : Hid (Below w0.heap.size w0 w6) := Lib.hid (by rw [hw6]; exact B4.out.drew)
  have HZ4 : Hid (w6.heap[z4]? = some (.cells zero3 70 (0, 0))) := Lib.hid ((HBF.out.block z4 (by have := HZZ.out; omega)).trans HZA.out)
  have HZ5 : Hid (w6.heap[z5]? = some (.cells foot0 48 (0, 0))) := Lib.hid ((HBF.out.block z5 (by have := HZZ.out; omega)).trans HZB.out)
  have HZ5b : Hid ((w6.setRow z4 #[.int .u64 0, .int .i64 0, .int .i64 0]).heap[z5]? = some (.cells foot0 48 (0, 0))) := Lib.hid ((Go.NR.setRow_else _ z4 _ z5 (fun q => by have := HZZ.out; omega)).trans HZ5.out)
  clear hw6
  go_wp2_with (first
    | (refine wpList_store_at _ rfl 70 (.tmp 4) (.tmp 44) rfl z4 70 0 #[.int .u64 0, .int .i64 0, .int .i64 0] #[.int .u64 0, .int .i64 0, .int .i64 0] #[.int .u64 0, .int .i64 0, .int .i64 0] rfl rfl HZ4.out (show 0 + 3 ≤ 3 by omega) rfl size70 (one3 0 0 0) ?_)
    | (refine wpList_store_at _ rfl 48 (.tmp 5) (.tmp 45) rfl z5 48 0 foot0 foot0 foot0 rfl rfl HZ5b.out (show 0 + 3 ≤ 3 by omega) rfl size48 foot0_one ?_))
  refine bodyPost_ret (results_cell2_tmp rfl _ _ z4 z5 70 48 zero3 foot0 _ _ rfl rfl ((Go.NR.setRow_else _ z5 _ z4 (fun q => by have := HZZ.out; omega)).trans (setRow_heap' _ z4 _ _ 70 HZ4.out)) (setRow_heap' _ z5 _ _ 48 HZ5b.out) size70 size48 st70 st48) rfl ?_
  exact ⟨rfl, WB.out.trans (Below.setRow (Below.setRow (HBF.out.mono WB.out.size) (by have := HZZ.out; omega) _) (by have := HZZ.out; omega) _)⟩
set_option maxHeartbeats 8000000 in
theorem Try.lookE {w : World} {F : Nat → Prop} {d k i : Nat} {L T : List UInt8} {Q : List (Nat × List UInt8)} (hd : DV w F d k L T Q) (hi : i < k) {e a n : Nat} (he : e < 18446744073709551616) (hei : e % 2 = i) (h1 : 1 ≤ n) (ha : 2 ≤ a) (hfit : a + n ≤ k) (hsup : supG (blk T i) = some (e, a, n)) (hf : ∀ w', DV w' F d k L T Q → Calls Try.prog 78 #[.pointer (some ⟨d, 0, none⟩), .agg #[.int .i64 a, .int .i64 n]] w' (FAt0 w')) :
    Calls Try.prog 53 #[.pointer (some ⟨d, 0, none⟩), .int .i64 i] w (LookNo w) := by
  have hdw' := hd
  obtain ⟨lb0, cl0, tb, ct, vw0, ds0, hdw0⟩ := hdw'
  have hk := hdw0.hk
  have h16 : 64 * k ≤ 65536 := by omega
  have hq : 64 * k / 64 = k := by omega
  have HDC := Lib.hid hdw0.c1
  clear hdw0
  have hb1 := (Below.refl w.heap.size w).alloc (Nat.le_refl _) (.cells zero3 70)
  have hn1 := heap_alloc_new w (.cells zero3 70)
  obtain ⟨wa, hwa⟩ : ∃ wa, w.alloc (.cells zero3 70) = wa := ⟨_, rfl⟩
  obtain ⟨z4, hz4⟩ : ∃ z4, w.heap.size = z4 := ⟨_, rfl⟩
  rw [hwa] at hb1 hn1
  rw [hz4] at hn1
  have hb2 := hb1.trans (((Below.refl wa.heap.size wa).alloc (Nat.le_refl _) (.cells foot0 48)).mono hb1.size)
  have hn2 := heap_alloc_new wa (.cells foot0 48)
  have hk2 := (((Below.refl wa.heap.size wa).alloc (Nat.le_refl _) (.cells foot0 48)).block z4 (Go.NR.heap_lt hn1)).trans hn1
  obtain ⟨w0, hw0⟩ : ∃ w0, wa.alloc (.cells foot0 48) = w0 := ⟨_, rfl⟩
  obtain ⟨z5, hz5⟩ : ∃ z5, wa.heap.size = z5 := ⟨_, rfl⟩
  rw [hw0] at hb2 hn2 hk2
  rw [hz5] at hn2
  have HZZ : Hid (z4 < z5 ∧ w.heap.size = z4 ∧ z5 < w0.heap.size) := Lib.hid ⟨by have := Go.NR.heap_lt hn1; omega, hz4, Go.NR.heap_lt hn2⟩
  have HZA := Lib.hid hk2
  have HZB := Lib.hid hn2
  have WB := Lib.hid hb2
  have HD := Lib.hid (DV.below hd hb2)
  have HI := Lib.hid hi
  clear hb1 hb2 hn1 hn2 hk2 hd hi
  go_enter Try.func53, Try.ntmps53
  unfold foot0 at hw0
  unfold zero3 at hwa
  go_upto_region 1 with fail
  (try rw [hwa])
  (try rw [hw0])
  clear hwa hw0 hz4 hz5
  go_wp2_with fail
  obtain ⟨lb, cl, tb1, ct1, vw, ds, hdw⟩ := HD.out
  refine (Try.read_good hdw i (by have := HI.out; omega)).mono ?_
  rintro x w1 ⟨b, c, rfl, z1, z2, z3, hb1⟩
  clear hdw lb cl tb1 ct1 vw ds
  have HDI : Hid (DI w1 (some ⟨b, 0, none⟩) 64 c (blk T i)) := Lib.hid (z3.di 64 z2 (blk_len HD.out HI.out))
  have B1 := Lib.hid hb1
  clear z1 z2 z3 hb1
  go_wp2_with fail
  refine (Try.sget w1 HDI.out (by omega)).mono ?_
  rintro x w2 ⟨hb2, hx⟩
  have B2 := Lib.hid (B1.out.trans (hb2.mono B1.out.size))
  have hx' : x = .returned (.tuple #[.agg #[.int .u64 e, .int .i64 a, .int .i64 n], .int .i64 0]) := by
    rcases hx with ⟨e1, a1, n1, h, _, rfl⟩ | ⟨h, _⟩
    · rw [hsup] at h
      cases h
      rfl
    · rw [hsup] at h
      cases h
  subst hx'
  have hes : ((e : Int) % 2) = (i : Nat) := by omega
  have HEI := Lib.hid hei
  clear hb2 hx B1 HDI hsup hei
  have HB3 := Lib.hid ((Below.refl w2.heap.size w2).alloc (Nat.le_refl _) (.cells #[.int .u64 e, .int .i64 a, .int .i64 n] 70))
  have HN3 := Lib.hid (heap_alloc_new w2 (.cells #[.int .u64 e, .int .i64 a, .int .i64 n] 70))
  go_upto_region 5 with fail
  obtain ⟨w4, hw4⟩ : ∃ w4, w2.alloc (.cells #[.int .u64 e, .int .i64 a, .int .i64 n] 70) = w4 := ⟨_, rfl⟩
  obtain ⟨s9, hs9⟩ : ∃ s9, w2.heap.size = s9 := ⟨_, rfl⟩
  have hb3 := HB3.out
  have hn3 := HN3.out
  rw [hw4] at hb3 hn3
  rw [hs9] at hn3
  have B4 := Lib.hid (B2.out.trans (hb3.mono B2.out.size))
  have V0 := Lib.hid (cell_of_row w4 s9 0 _ 70 _ hn3)
  have V1 := Lib.hid (cell_of_row w4 s9 1 _ 70 _ hn3)
  have V2 := Lib.hid (cell_of_row w4 s9 2 _ 70 _ hn3)
  have HS4 := Lib.hid hn3
  have HS9 : Hid (w0.heap.size ≤ s9) := Lib.hid (by have := B2.out.size; omega)
  have DC : Hid (w4.cell? ⟨d, 1, none⟩ = some (.slice (some ⟨tb, 0, none⟩) (64 * k) ct)) := Lib.hid (cellW HDC.out (WB.out.trans (B4.out.mono WB.out.size)))
  (try rw [hw4])
  (try rw [hs9])
  clear hw4 hs9 hb3 hn3 HB3 HN3
  refine wp_region_noPanic ?_
  refine wp_region_held_drew (S := (fun W => W.cell? ⟨s9, 0, none⟩ = some (.int .u64 e) ∧ W.cell? ⟨s9, 1, none⟩ = some (.int .i64 a) ∧ W.cell? ⟨s9, 2, none⟩ = some (.int .i64 n) ∧ W.cell? ⟨d, 1, none⟩ = some (.slice (some ⟨tb, 0, none⟩) (64 * k) ct))) (by kernel_rfl) ?_ (fun hHeld => ?_)
  · exact ⟨V0.out, V1.out, V2.out, DC.out⟩
  refine wpAnyH_take (i := 0) (oi := { dst := some 27, op := Op.move (Operand.tmp 8), type := 51, pos := "super.go:98", after := #[], guard := none }) (v := ?_) rfl (by kernel_rfl) (by kernel_rfl) (by kernel_rfl) (fun _ _ _ h => h) (Or.inl ⟨by rfl, ?_⟩) (by assumption) ?_
  rotate_left
  · (intro w hSw; (try dsimp only at hSw); go_simp; try with_reducible rfl)
  try simp only [Act.put, List.setIfInBounds_toArray, List.set_cons_zero, List.set_cons_succ]
  refine wpAnyH_take (i := 1) (oi := { dst := some 28, op := Op.binOp BinOp.neq 51 (Operand.tmp 27) (Operand.const (Value.int IntKind.i64 0)) 51, type := 4, pos := "super.go:98", after := #[{ on := 0, ground := Ground.data }], guard := none }) (v := ?_) rfl (by kernel_rfl) (by kernel_rfl) (by kernel_rfl) (fun _ _ _ h => h) (Or.inl ⟨by rfl, ?_⟩) (by assumption) ?_
  rotate_left
  · (intro w hSw; (try dsimp only at hSw); go_simp; try with_reducible rfl)
  try simp only [Act.put, List.setIfInBounds_toArray, List.set_cons_zero, List.set_cons_succ]
  refine wpAnyH_take (i := 2) (oi := { dst := some 29, op := Op.move (Operand.tmp 28), type := 4, pos := "super.go:98", after := #[{ on := 1, ground := Ground.data }], guard := none }) (v := ?_) rfl (by kernel_rfl) (by kernel_rfl) (by kernel_rfl) (fun _ _ _ h => h) (Or.inl ⟨by rfl, ?_⟩) (by assumption) ?_
  rotate_left
  · (intro w hSw; (try dsimp only at hSw); go_simp; try with_reducible rfl)
  try simp only [Act.put, List.setIfInBounds_toArray, List.set_cons_zero, List.set_cons_succ]
  refine wpAnyH_take (i := 3) (oi := { dst := some 30, op := Op.fieldAddr 70 (Operand.tmp 9) 0, type := 0, pos := "super.go:98", after := #[{ on := 2, ground := Ground.guard }], guard := some (2, false) }) (v := ?_) rfl (by kernel_rfl) (by kernel_rfl) (by kernel_rfl) (fun _ _ _ h => h) (Or.inl ⟨by rfl, ?_⟩) (by assumption) ?_
  rotate_left
  · (intro w hSw; (try dsimp only at hSw); go_simp; try with_reducible rfl)
  try simp only [Act.put, List.setIfInBounds_toArray, List.set_cons_zero, List.set_cons_succ]
  refine wpAnyH_take (i := 4) (oi := { dst := some 31, op := Op.load 23 (Operand.tmp 30), type := 23, pos := "super.go:98", after := #[{ on := 3, ground := Ground.data }, { on := 2, ground := Ground.guard }], guard := some (2, false) }) (v := ?_) rfl (by kernel_rfl) (by kernel_rfl) (by kernel_rfl) (fun _ _ _ h => h) (Or.inl ⟨by rfl, ?_⟩) (by assumption) ?_
  rotate_left
  · (intro w hSw; (try dsimp only at hSw); go_simp; try with_reducible rfl)
  try simp only [Act.put, List.setIfInBounds_toArray, List.set_cons_zero, List.set_cons_succ]
  refine wpAnyH_take (i := 6) (oi := { dst := some 33, op := Op.move (Operand.tmp 1), type := 3, pos := "super.go:98", after := #[{ on := 2, ground := Ground.guard }], guard := some (2, false) }) (v := ?_) rfl (by kernel_rfl) (by kernel_rfl) (by kernel_rfl) (fun _ _ _ h => h) (Or.inl ⟨by rfl, ?_⟩) (by assumption) ?_
  rotate_left
  · (intro w hSw; (try dsimp only at hSw); go_simp; try with_reducible rfl)
  try simp only [Act.put, List.setIfInBounds_toArray, List.set_cons_zero, List.set_cons_succ]
  refine wpAnyH_ready (rs := [5]) (by kernel_rfl) (by simp) ?_
  refine AllReadyH.cons (o := { dst := some 32, op := Op.call { callee := Callee.value (Operand.func 43), args := #[Operand.tmp 31], argTypes := #[23] }, type := 3, pos := "super.go:98", after := #[{ on := 4, ground := Ground.data }, { on := 2, ground := Ground.chain }, { on := 2, ground := Ground.guard }], guard := some (2, false) }) rfl (fun K hK => ?_) AllReadyH.nil
  go_simp
  refine (Try.slot e he _).mono ?_
  rintro x5 w5 ⟨rfl, rfl⟩
  rw [hes]
  refine hK.out _ _ ?_ (fun hHeld => ?_)
  · assumption
  clear hK K
  try simp only [Act.put, List.setIfInBounds_toArray, List.set_cons_zero, List.set_cons_succ]
  refine wpAnyH_take (i := 7) (oi := { dst := some 34, op := Op.binOp BinOp.neq 3 (Operand.tmp 32) (Operand.tmp 33) 3, type := 4, pos := "super.go:98", after := #[{ on := 5, ground := Ground.data }, { on := 6, ground := Ground.data }, { on := 2, ground := Ground.guard }], guard := some (2, false) }) (v := ?_) rfl (by kernel_rfl) (by kernel_rfl) (by kernel_rfl) (fun _ _ _ h => h) (Or.inl ⟨by rfl, ?_⟩) (by assumption) ?_
  rotate_left
  · (intro w hSw; (try dsimp only at hSw); go_simp; try with_reducible rfl)
  try simp only [Act.put, List.setIfInBounds_toArray, List.set_cons_zero, List.set_cons_succ]
  refine wpAnyH_take (i := 8) (oi := { dst := some 35, op := Op.pick (Operand.tmp 29) (Operand.const (Value.bool true)) (Operand.tmp 34), type := 4, pos := "super.go:98", after := #[{ on := 2, ground := Ground.data }, { on := 7, ground := Ground.data }], guard := none }) (v := ?_) rfl (by kernel_rfl) (by kernel_rfl) (by kernel_rfl) (fun _ _ _ h => h) (Or.inl ⟨by rfl, ?_⟩) (by assumption) ?_
  rotate_left
  · (intro w hSw; (try dsimp only at hSw); go_simp; try with_reducible rfl)
  try simp only [Act.put, List.setIfInBounds_toArray, List.set_cons_zero, List.set_cons_succ]
  refine wpAnyH_take (i := 9) (oi := { dst := some 36, op := Op.move (Operand.tmp 35), type := 4, pos := "super.go:98", after := #[{ on := 8, ground := Ground.data }, { on := 5, ground := Ground.chain }], guard := none }) (v := ?_) rfl (by kernel_rfl) (by kernel_rfl) (by kernel_rfl) (fun _ _ _ h => h) (Or.inl ⟨by rfl, ?_⟩) (by assumption) ?_
  rotate_left
  · (intro w hSw; (try dsimp only at hSw); go_simp; try with_reducible rfl)
  try simp only [Act.put, List.setIfInBounds_toArray, List.set_cons_zero, List.set_cons_succ]
  refine wpAnyH_take (i := 10) (oi := { dst := some 37, op := Op.fieldAddr 70 (Operand.tmp 9) 1, type := 0, pos := "super.go:98", after := #[{ on := 9, ground := Ground.guard }], guard := some (9, false) }) (v := ?_) rfl (by kernel_rfl) (by kernel_rfl) (by kernel_rfl) (fun _ _ _ h => h) (Or.inl ⟨by rfl, ?_⟩) (by assumption) ?_
  rotate_left
  · (intro w hSw; (try dsimp only at hSw); go_simp; try with_reducible rfl)
  try simp only [Act.put, List.setIfInBounds_toArray, List.set_cons_zero, List.set_cons_succ]
  refine wpAnyH_take (i := 11) (oi := { dst := some 38, op := Op.load 60 (Operand.tmp 37), type := 60, pos := "super.go:98", after := #[{ on := 10, ground := Ground.data }, { on := 9, ground := Ground.guard }], guard := some (9, false) }) (v := ?_) rfl (by kernel_rfl) (by kernel_rfl) (by kernel_rfl) (fun _ _ _ h => h) (Or.inl ⟨by rfl, ?_⟩) (by assumption) ?_
  rotate_left
  · (intro w hSw; (try dsimp only at hSw); go_simp; try with_reducible rfl)
  try simp only [Act.put, List.setIfInBounds_toArray, List.set_cons_zero, List.set_cons_succ]
  refine wpAnyH_take (i := 12) (oi := { dst := some 39, op := Op.move (Operand.tmp 0), type := 63, pos := "super.go:98", after := #[{ on := 9, ground := Ground.guard }], guard := some (9, false) }) (v := ?_) rfl (by kernel_rfl) (by kernel_rfl) (by kernel_rfl) (fun _ _ _ h => h) (Or.inl ⟨by rfl, ?_⟩) (by assumption) ?_
  rotate_left
  · (intro w hSw; (try dsimp only at hSw); go_simp; try with_reducible rfl)
  try simp only [Act.put, List.setIfInBounds_toArray, List.set_cons_zero, List.set_cons_succ]
  refine wpAnyH_ready (rs := [13]) (by kernel_rfl) (by simp) ?_
  refine AllReadyH.cons (o := { dst := some 40, op := Op.call { callee := Callee.value (Operand.func 74), args := #[Operand.tmp 39], argTypes := #[63] }, type := 3, pos := "super.go:98", after := #[{ on := 12, ground := Ground.data }, { on := 9, ground := Ground.chain }, { on := 9, ground := Ground.guard }], guard := some (9, false) }) rfl (fun K hK => ?_) AllReadyH.nil
  go_simp
  refine (Try.blocks d (64 * k) ct _ h16 _ (cellW DC.out (Below.refl _ w4).drew)).mono ?_
  rintro x5 w5 ⟨rfl, rfl⟩
  rw [hq]
  refine hK.out _ _ ?_ (fun hHeld => ?_)
  · assumption
  clear hK K
  try simp only [Act.put, List.setIfInBounds_toArray, List.set_cons_zero, List.set_cons_succ]
  refine wpAnyH_ready (rs := [14]) (by kernel_rfl) (by simp) ?_
  refine AllReadyH.cons (o := { dst := some 41, op := Op.call { callee := Callee.value (Operand.func 77), args := #[Operand.tmp 38, Operand.tmp 40], argTypes := #[60, 3] }, type := 51, pos := "super.go:98", after := #[{ on := 11, ground := Ground.data }, { on := 13, ground := Ground.data }, { on := 13, ground := Ground.chain }, { on := 9, ground := Ground.guard }], guard := some (9, false) }) rfl (fun K hK => ?_) AllReadyH.nil
  go_simp
  refine (Try.extCheck _ a n k h1 ha hfit hk).mono ?_
  rintro x6 w6 ⟨rfl, hb6⟩
  have B6 : Hid (Below w4.heap.size w4 w6) := Lib.hid ((Below.refl _ w4).drew.trans hb6)
  clear hb6
  refine hK.out _ _ ?_ (fun hHeld => ?_)
  · exact ⟨cellW V0.out B6.out, cellW V1.out B6.out, cellW V2.out B6.out, cellW DC.out B6.out⟩
  clear hK K
  try simp only [Act.put, List.setIfInBounds_toArray, List.set_cons_zero, List.set_cons_succ]
  refine wpAnyH_take (i := 15) (oi := { dst := some 42, op := Op.binOp BinOp.neq 51 (Operand.tmp 41) (Operand.const (Value.int IntKind.i64 0)) 51, type := 4, pos := "super.go:98", after := #[{ on := 14, ground := Ground.data }, { on := 9, ground := Ground.guard }], guard := some (9, false) }) (v := ?_) rfl (by kernel_rfl) (by kernel_rfl) (by kernel_rfl) (fun _ _ _ h => h) (Or.inl ⟨by rfl, ?_⟩) (by assumption) ?_
  rotate_left
  · (intro w hSw; (try dsimp only at hSw); go_simp; try with_reducible rfl)
  try simp only [Act.put, List.setIfInBounds_toArray, List.set_cons_zero, List.set_cons_succ]
  refine wpAnyH_take (i := 16) (oi := { dst := some 43, op := Op.pick (Operand.tmp 36) (Operand.const (Value.bool true)) (Operand.tmp 42), type := 4, pos := "super.go:98", after := #[{ on := 9, ground := Ground.data }, { on := 15, ground := Ground.data }], guard := none }) (v := ?_) rfl (by kernel_rfl) (by kernel_rfl) (by kernel_rfl) (fun _ _ _ h => h) (Or.inl ⟨by rfl, ?_⟩) (by assumption) ?_
  rotate_left
  · (intro w hSw; (try dsimp only at hSw); go_simp; try with_reducible rfl)
  try simp only [Act.put, List.setIfInBounds_toArray, List.set_cons_zero, List.set_cons_succ]
  refine wpAnyH_done (by kernel_rfl) ?_ _
  refine NoPanic.normal ?_
  have B7 := Lib.hid (B4.out.trans (B6.out.mono B4.out.size))
  have HD6 := Lib.hid (DV.below HD.out B7.out)
  have HS6 := Lib.hid ((B6.out.block s9 (Go.NR.heap_lt HS4.out)).trans HS4.out)
  have c0 := cellW V0.out B6.out
  have c1 := cellW V1.out B6.out
  have c2 := cellW V2.out B6.out
  simp at c0 c1 c2
  clear hHeld V0 V1 V2 DC HS4 B4 B6
  go_wp2_with fail
  refine (hf _ HD6.out).mono ?_
  rintro x w7 ⟨rfl, hb7⟩
  unfold foot0
  have B8 := Lib.hid (B7.out.trans (hb7.mono B7.out.size))
  have HBF : Hid (Below w0.heap.size w0 (w7.alloc (.cells #[.int .u64 0, .slice none 0 0, .slice none 0 0] 48))) := Lib.hid (B8.out.trans (((Below.refl w7.heap.size w7).alloc (Nat.le_refl _) _).mono B8.out.size))
  have HZ4 : Hid ((w7.alloc (.cells #[.int .u64 0, .slice none 0 0, .slice none 0 0] 48)).heap[z4]? = some (.cells zero3 70 (0, 0))) := Lib.hid ((HBF.out.block z4 (by have := HZZ.out; omega)).trans HZA.out)
  have HZ5 : Hid ((w7.alloc (.cells #[.int .u64 0, .slice none 0 0, .slice none 0 0] 48)).heap[z5]? = some (.cells foot0 48 (0, 0))) := Lib.hid ((HBF.out.block z5 (by have := HZZ.out; omega)).trans HZB.out)
  have HZ5b : Hid (((w7.alloc (.cells #[.int .u64 0, .slice none 0 0, .slice none 0 0] 48)).setRow z4 #[.int .u64 0, .int .i64 0, .int .i64 0]).heap[z5]? = some (.cells foot0 48 (0, 0))) := Lib.hid ((Go.NR.setRow_else _ z4 _ z5 (fun q => by have := HZZ.out; omega)).trans HZ5.out)
  clear hb7 c0 c1 c2 HS6 B8 B7
  go_wp2_with (first
    | (refine wpList_store_at _ rfl 70 (.tmp 4) (.tmp 62) rfl z4 70 0 #[.int .u64 0, .int .i64 0, .int .i64 0] #[.int .u64 0, .int .i64 0, .int .i64 0] #[.int .u64 0, .int .i64 0, .int .i64 0] rfl rfl HZ4.out (show 0 + 3 ≤ 3 by omega) rfl size70 (one3 0 0 0) ?_)
    | (refine wpList_store_at _ rfl 48 (.tmp 5) (.tmp 63) rfl z5 48 0 foot0 foot0 foot0 rfl rfl HZ5b.out (show 0 + 3 ≤ 3 by omega) rfl size48 foot0_one ?_))
  refine bodyPost_ret (results_cell2_tmp rfl _ _ z4 z5 70 48 zero3 foot0 _ _ rfl rfl ((Go.NR.setRow_else _ z5 _ z4 (fun q => by have := HZZ.out; omega)).trans (setRow_heap' _ z4 _ _ 70 HZ4.out)) (setRow_heap' _ z5 _ _ 48 HZ5b.out) size70 size48 st70 st48) rfl ?_
  exact ⟨rfl, WB.out.trans (Below.setRow (Below.setRow (HBF.out.mono WB.out.size) (by have := HZZ.out; omega) _) (by have := HZZ.out; omega) _)⟩
set_option maxHeartbeats 8000000 in
theorem Try.lookX {w : World} {F : Nat → Prop} {d k i : Nat} {L T : List UInt8} {Q : List (Nat × List UInt8)} (hd : DV w F d k L T Q) (hi : i < k) {e a n : Nat} (he : e < 18446744073709551616) (hei : e % 2 = i) (h1 : 1 ≤ n) (ha : 2 ≤ a) (hfit : a + n ≤ k) (hsup : supG (blk T i) = some (e, a, n)) {e' : Nat} {cs : List (List UInt8 × Int)} (he' : e' < 18446744073709551616) (he0 : e' ≠ 0) (hne : e' ≠ e) (hok : chk cs = 0) (hpg : cat T a n = pageB (footB e' cs)) :
    Calls Try.prog 53 #[.pointer (some ⟨d, 0, none⟩), .int .i64 i] w (LookNo w) := by
  have d1 : ((e' : Int) != (e : Int)) = true := by simp; omega
  have d2 : decide ((e' : Int) = (e : Int)) = false := decide_eq_false (by omega)
  have hdw' := hd
  obtain ⟨lb0, cl0, tb, ct, vw0, ds0, hdw0⟩ := hdw'
  have hk := hdw0.hk
  have h16 : 64 * k ≤ 65536 := by omega
  have hq : 64 * k / 64 = k := by omega
  have HDC := Lib.hid hdw0.c1
  clear hdw0
  have hb1 := (Below.refl w.heap.size w).alloc (Nat.le_refl _) (.cells zero3 70)
  have hn1 := heap_alloc_new w (.cells zero3 70)
  obtain ⟨wa, hwa⟩ : ∃ wa, w.alloc (.cells zero3 70) = wa := ⟨_, rfl⟩
  obtain ⟨z4, hz4⟩ : ∃ z4, w.heap.size = z4 := ⟨_, rfl⟩
  rw [hwa] at hb1 hn1
  rw [hz4] at hn1
  have hb2 := hb1.trans (((Below.refl wa.heap.size wa).alloc (Nat.le_refl _) (.cells foot0 48)).mono hb1.size)
  have hn2 := heap_alloc_new wa (.cells foot0 48)
  have hk2 := (((Below.refl wa.heap.size wa).alloc (Nat.le_refl _) (.cells foot0 48)).block z4 (Go.NR.heap_lt hn1)).trans hn1
  obtain ⟨w0, hw0⟩ : ∃ w0, wa.alloc (.cells foot0 48) = w0 := ⟨_, rfl⟩
  obtain ⟨z5, hz5⟩ : ∃ z5, wa.heap.size = z5 := ⟨_, rfl⟩
  rw [hw0] at hb2 hn2 hk2
  rw [hz5] at hn2
  have HZZ : Hid (z4 < z5 ∧ w.heap.size = z4 ∧ z5 < w0.heap.size) := Lib.hid ⟨by have := Go.NR.heap_lt hn1; omega, hz4, Go.NR.heap_lt hn2⟩
  have HZA := Lib.hid hk2
  have HZB := Lib.hid hn2
  have WB := Lib.hid hb2
  have HD := Lib.hid (DV.below hd hb2)
  have HI := Lib.hid hi
  clear hb1 hb2 hn1 hn2 hk2 hd hi
  go_enter Try.func53, Try.ntmps53
  unfold foot0 at hw0
  unfold zero3 at hwa
  go_upto_region 1 with fail
  (try rw [hwa])
  (try rw [hw0])
  clear hwa hw0 hz4 hz5
  go_wp2_with fail
  obtain ⟨lb, cl, tb1, ct1, vw, ds, hdw⟩ := HD.out
  refine (Try.read_good hdw i (by have := HI.out; omega)).mono ?_
  rintro x w1 ⟨b, c, rfl, z1, z2, z3, hb1⟩
  clear hdw lb cl tb1 ct1 vw ds
  have HDI : Hid (DI w1 (some ⟨b, 0, none⟩) 64 c (blk T i)) := Lib.hid (z3.di 64 z2 (blk_len HD.out HI.out))
  have B1 := Lib.hid hb1
  clear z1 z2 z3 hb1
  go_wp2_with fail
  refine (Try.sget w1 HDI.out (by omega)).mono ?_
  rintro x w2 ⟨hb2, hx⟩
  have B2 := Lib.hid (B1.out.trans (hb2.mono B1.out.size))
  have hx' : x = .returned (.tuple #[.agg #[.int .u64 e, .int .i64 a, .int .i64 n], .int .i64 0]) := by
    rcases hx with ⟨e1, a1, n1, h, _, rfl⟩ | ⟨h, _⟩
    · rw [hsup] at h
      cases h
      rfl
    · rw [hsup] at h
      cases h
  subst hx'
  have hes : ((e : Int) % 2) = (i : Nat) := by omega
  have HEI := Lib.hid hei
  clear hb2 hx B1 HDI hsup hei
  have HB3 := Lib.hid ((Below.refl w2.heap.size w2).alloc (Nat.le_refl _) (.cells #[.int .u64 e, .int .i64 a, .int .i64 n] 70))
  have HN3 := Lib.hid (heap_alloc_new w2 (.cells #[.int .u64 e, .int .i64 a, .int .i64 n] 70))
  go_upto_region 5 with fail
  obtain ⟨w4, hw4⟩ : ∃ w4, w2.alloc (.cells #[.int .u64 e, .int .i64 a, .int .i64 n] 70) = w4 := ⟨_, rfl⟩
  obtain ⟨s9, hs9⟩ : ∃ s9, w2.heap.size = s9 := ⟨_, rfl⟩
  have hb3 := HB3.out
  have hn3 := HN3.out
  rw [hw4] at hb3 hn3
  rw [hs9] at hn3
  have B4 := Lib.hid (B2.out.trans (hb3.mono B2.out.size))
  have V0 := Lib.hid (cell_of_row w4 s9 0 _ 70 _ hn3)
  have V1 := Lib.hid (cell_of_row w4 s9 1 _ 70 _ hn3)
  have V2 := Lib.hid (cell_of_row w4 s9 2 _ 70 _ hn3)
  have HS4 := Lib.hid hn3
  have HS9 : Hid (w0.heap.size ≤ s9) := Lib.hid (by have := B2.out.size; omega)
  have DC : Hid (w4.cell? ⟨d, 1, none⟩ = some (.slice (some ⟨tb, 0, none⟩) (64 * k) ct)) := Lib.hid (cellW HDC.out (WB.out.trans (B4.out.mono WB.out.size)))
  (try rw [hw4])
  (try rw [hs9])
  clear hw4 hs9 hb3 hn3 HB3 HN3
  refine wp_region_noPanic ?_
  refine wp_region_held_drew (S := (fun W => W.cell? ⟨s9, 0, none⟩ = some (.int .u64 e) ∧ W.cell? ⟨s9, 1, none⟩ = some (.int .i64 a) ∧ W.cell? ⟨s9, 2, none⟩ = some (.int .i64 n) ∧ W.cell? ⟨d, 1, none⟩ = some (.slice (some ⟨tb, 0, none⟩) (64 * k) ct))) (by kernel_rfl) ?_ (fun hHeld => ?_)
  · exact ⟨V0.out, V1.out, V2.out, DC.out⟩
  refine wpAnyH_take (i := 0) (oi := { dst := some 27, op := Op.move (Operand.tmp 8), type := 51, pos := "super.go:98", after := #[], guard := none }) (v := ?_) rfl (by kernel_rfl) (by kernel_rfl) (by kernel_rfl) (fun _ _ _ h => h) (Or.inl ⟨by rfl, ?_⟩) (by assumption) ?_
  rotate_left
  · (intro w hSw; (try dsimp only at hSw); go_simp; try with_reducible rfl)
  try simp only [Act.put, List.setIfInBounds_toArray, List.set_cons_zero, List.set_cons_succ]
  refine wpAnyH_take (i := 1) (oi := { dst := some 28, op := Op.binOp BinOp.neq 51 (Operand.tmp 27) (Operand.const (Value.int IntKind.i64 0)) 51, type := 4, pos := "super.go:98", after := #[{ on := 0, ground := Ground.data }], guard := none }) (v := ?_) rfl (by kernel_rfl) (by kernel_rfl) (by kernel_rfl) (fun _ _ _ h => h) (Or.inl ⟨by rfl, ?_⟩) (by assumption) ?_
  rotate_left
  · (intro w hSw; (try dsimp only at hSw); go_simp; try with_reducible rfl)
  try simp only [Act.put, List.setIfInBounds_toArray, List.set_cons_zero, List.set_cons_succ]
  refine wpAnyH_take (i := 2) (oi := { dst := some 29, op := Op.move (Operand.tmp 28), type := 4, pos := "super.go:98", after := #[{ on := 1, ground := Ground.data }], guard := none }) (v := ?_) rfl (by kernel_rfl) (by kernel_rfl) (by kernel_rfl) (fun _ _ _ h => h) (Or.inl ⟨by rfl, ?_⟩) (by assumption) ?_
  rotate_left
  · (intro w hSw; (try dsimp only at hSw); go_simp; try with_reducible rfl)
  try simp only [Act.put, List.setIfInBounds_toArray, List.set_cons_zero, List.set_cons_succ]
  refine wpAnyH_take (i := 3) (oi := { dst := some 30, op := Op.fieldAddr 70 (Operand.tmp 9) 0, type := 0, pos := "super.go:98", after := #[{ on := 2, ground := Ground.guard }], guard := some (2, false) }) (v := ?_) rfl (by kernel_rfl) (by kernel_rfl) (by kernel_rfl) (fun _ _ _ h => h) (Or.inl ⟨by rfl, ?_⟩) (by assumption) ?_
  rotate_left
  · (intro w hSw; (try dsimp only at hSw); go_simp; try with_reducible rfl)
  try simp only [Act.put, List.setIfInBounds_toArray, List.set_cons_zero, List.set_cons_succ]
  refine wpAnyH_take (i := 4) (oi := { dst := some 31, op := Op.load 23 (Operand.tmp 30), type := 23, pos := "super.go:98", after := #[{ on := 3, ground := Ground.data }, { on := 2, ground := Ground.guard }], guard := some (2, false) }) (v := ?_) rfl (by kernel_rfl) (by kernel_rfl) (by kernel_rfl) (fun _ _ _ h => h) (Or.inl ⟨by rfl, ?_⟩) (by assumption) ?_
  rotate_left
  · (intro w hSw; (try dsimp only at hSw); go_simp; try with_reducible rfl)
  try simp only [Act.put, List.setIfInBounds_toArray, List.set_cons_zero, List.set_cons_succ]
  refine wpAnyH_take (i := 6) (oi := { dst := some 33, op := Op.move (Operand.tmp 1), type := 3, pos := "super.go:98", after := #[{ on := 2, ground := Ground.guard }], guard := some (2, false) }) (v := ?_) rfl (by kernel_rfl) (by kernel_rfl) (by kernel_rfl) (fun _ _ _ h => h) (Or.inl ⟨by rfl, ?_⟩) (by assumption) ?_
  rotate_left
  · (intro w hSw; (try dsimp only at hSw); go_simp; try with_reducible rfl)
  try simp only [Act.put, List.setIfInBounds_toArray, List.set_cons_zero, List.set_cons_succ]
  refine wpAnyH_ready (rs := [5]) (by kernel_rfl) (by simp) ?_
  refine AllReadyH.cons (o := { dst := some 32, op := Op.call { callee := Callee.value (Operand.func 43), args := #[Operand.tmp 31], argTypes := #[23] }, type := 3, pos := "super.go:98", after := #[{ on := 4, ground := Ground.data }, { on := 2, ground := Ground.chain }, { on := 2, ground := Ground.guard }], guard := some (2, false) }) rfl (fun K hK => ?_) AllReadyH.nil
  go_simp
  refine (Try.slot e he _).mono ?_
  rintro x5 w5 ⟨rfl, rfl⟩
  rw [hes]
  refine hK.out _ _ ?_ (fun hHeld => ?_)
  · assumption
  clear hK K
  try simp only [Act.put, List.setIfInBounds_toArray, List.set_cons_zero, List.set_cons_succ]
  refine wpAnyH_take (i := 7) (oi := { dst := some 34, op := Op.binOp BinOp.neq 3 (Operand.tmp 32) (Operand.tmp 33) 3, type := 4, pos := "super.go:98", after := #[{ on := 5, ground := Ground.data }, { on := 6, ground := Ground.data }, { on := 2, ground := Ground.guard }], guard := some (2, false) }) (v := ?_) rfl (by kernel_rfl) (by kernel_rfl) (by kernel_rfl) (fun _ _ _ h => h) (Or.inl ⟨by rfl, ?_⟩) (by assumption) ?_
  rotate_left
  · (intro w hSw; (try dsimp only at hSw); go_simp; try with_reducible rfl)
  try simp only [Act.put, List.setIfInBounds_toArray, List.set_cons_zero, List.set_cons_succ]
  refine wpAnyH_take (i := 8) (oi := { dst := some 35, op := Op.pick (Operand.tmp 29) (Operand.const (Value.bool true)) (Operand.tmp 34), type := 4, pos := "super.go:98", after := #[{ on := 2, ground := Ground.data }, { on := 7, ground := Ground.data }], guard := none }) (v := ?_) rfl (by kernel_rfl) (by kernel_rfl) (by kernel_rfl) (fun _ _ _ h => h) (Or.inl ⟨by rfl, ?_⟩) (by assumption) ?_
  rotate_left
  · (intro w hSw; (try dsimp only at hSw); go_simp; try with_reducible rfl)
  try simp only [Act.put, List.setIfInBounds_toArray, List.set_cons_zero, List.set_cons_succ]
  refine wpAnyH_take (i := 9) (oi := { dst := some 36, op := Op.move (Operand.tmp 35), type := 4, pos := "super.go:98", after := #[{ on := 8, ground := Ground.data }, { on := 5, ground := Ground.chain }], guard := none }) (v := ?_) rfl (by kernel_rfl) (by kernel_rfl) (by kernel_rfl) (fun _ _ _ h => h) (Or.inl ⟨by rfl, ?_⟩) (by assumption) ?_
  rotate_left
  · (intro w hSw; (try dsimp only at hSw); go_simp; try with_reducible rfl)
  try simp only [Act.put, List.setIfInBounds_toArray, List.set_cons_zero, List.set_cons_succ]
  refine wpAnyH_take (i := 10) (oi := { dst := some 37, op := Op.fieldAddr 70 (Operand.tmp 9) 1, type := 0, pos := "super.go:98", after := #[{ on := 9, ground := Ground.guard }], guard := some (9, false) }) (v := ?_) rfl (by kernel_rfl) (by kernel_rfl) (by kernel_rfl) (fun _ _ _ h => h) (Or.inl ⟨by rfl, ?_⟩) (by assumption) ?_
  rotate_left
  · (intro w hSw; (try dsimp only at hSw); go_simp; try with_reducible rfl)
  try simp only [Act.put, List.setIfInBounds_toArray, List.set_cons_zero, List.set_cons_succ]
  refine wpAnyH_take (i := 11) (oi := { dst := some 38, op := Op.load 60 (Operand.tmp 37), type := 60, pos := "super.go:98", after := #[{ on := 10, ground := Ground.data }, { on := 9, ground := Ground.guard }], guard := some (9, false) }) (v := ?_) rfl (by kernel_rfl) (by kernel_rfl) (by kernel_rfl) (fun _ _ _ h => h) (Or.inl ⟨by rfl, ?_⟩) (by assumption) ?_
  rotate_left
  · (intro w hSw; (try dsimp only at hSw); go_simp; try with_reducible rfl)
  try simp only [Act.put, List.setIfInBounds_toArray, List.set_cons_zero, List.set_cons_succ]
  refine wpAnyH_take (i := 12) (oi := { dst := some 39, op := Op.move (Operand.tmp 0), type := 63, pos := "super.go:98", after := #[{ on := 9, ground := Ground.guard }], guard := some (9, false) }) (v := ?_) rfl (by kernel_rfl) (by kernel_rfl) (by kernel_rfl) (fun _ _ _ h => h) (Or.inl ⟨by rfl, ?_⟩) (by assumption) ?_
  rotate_left
  · (intro w hSw; (try dsimp only at hSw); go_simp; try with_reducible rfl)
  try simp only [Act.put, List.setIfInBounds_toArray, List.set_cons_zero, List.set_cons_succ]
  refine wpAnyH_ready (rs := [13]) (by kernel_rfl) (by simp) ?_
  refine AllReadyH.cons (o := { dst := some 40, op := Op.call { callee := Callee.value (Operand.func 74), args := #[Operand.tmp 39], argTypes := #[63] }, type := 3, pos := "super.go:98", after := #[{ on := 12, ground := Ground.data }, { on := 9, ground := Ground.chain }, { on := 9, ground := Ground.guard }], guard := some (9, false) }) rfl (fun K hK => ?_) AllReadyH.nil
  go_simp
  refine (Try.blocks d (64 * k) ct _ h16 _ (cellW DC.out (Below.refl _ w4).drew)).mono ?_
  rintro x5 w5 ⟨rfl, rfl⟩
  rw [hq]
  refine hK.out _ _ ?_ (fun hHeld => ?_)
  · assumption
  clear hK K
  try simp only [Act.put, List.setIfInBounds_toArray, List.set_cons_zero, List.set_cons_succ]
  refine wpAnyH_ready (rs := [14]) (by kernel_rfl) (by simp) ?_
  refine AllReadyH.cons (o := { dst := some 41, op := Op.call { callee := Callee.value (Operand.func 77), args := #[Operand.tmp 38, Operand.tmp 40], argTypes := #[60, 3] }, type := 51, pos := "super.go:98", after := #[{ on := 11, ground := Ground.data }, { on := 13, ground := Ground.data }, { on := 13, ground := Ground.chain }, { on := 9, ground := Ground.guard }], guard := some (9, false) }) rfl (fun K hK => ?_) AllReadyH.nil
  go_simp
  refine (Try.extCheck _ a n k h1 ha hfit hk).mono ?_
  rintro x6 w6 ⟨rfl, hb6⟩
  have B6 : Hid (Below w4.heap.size w4 w6) := Lib.hid ((Below.refl _ w4).drew.trans hb6)
  clear hb6
  refine hK.out _ _ ?_ (fun hHeld => ?_)
  · exact ⟨cellW V0.out B6.out, cellW V1.out B6.out, cellW V2.out B6.out, cellW DC.out B6.out⟩
  clear hK K
  try simp only [Act.put, List.setIfInBounds_toArray, List.set_cons_zero, List.set_cons_succ]
  refine wpAnyH_take (i := 15) (oi := { dst := some 42, op := Op.binOp BinOp.neq 51 (Operand.tmp 41) (Operand.const (Value.int IntKind.i64 0)) 51, type := 4, pos := "super.go:98", after := #[{ on := 14, ground := Ground.data }, { on := 9, ground := Ground.guard }], guard := some (9, false) }) (v := ?_) rfl (by kernel_rfl) (by kernel_rfl) (by kernel_rfl) (fun _ _ _ h => h) (Or.inl ⟨by rfl, ?_⟩) (by assumption) ?_
  rotate_left
  · (intro w hSw; (try dsimp only at hSw); go_simp; try with_reducible rfl)
  try simp only [Act.put, List.setIfInBounds_toArray, List.set_cons_zero, List.set_cons_succ]
  refine wpAnyH_take (i := 16) (oi := { dst := some 43, op := Op.pick (Operand.tmp 36) (Operand.const (Value.bool true)) (Operand.tmp 42), type := 4, pos := "super.go:98", after := #[{ on := 9, ground := Ground.data }, { on := 15, ground := Ground.data }], guard := none }) (v := ?_) rfl (by kernel_rfl) (by kernel_rfl) (by kernel_rfl) (fun _ _ _ h => h) (Or.inl ⟨by rfl, ?_⟩) (by assumption) ?_
  rotate_left
  · (intro w hSw; (try dsimp only at hSw); go_simp; try with_reducible rfl)
  try simp only [Act.put, List.setIfInBounds_toArray, List.set_cons_zero, List.set_cons_succ]
  refine wpAnyH_done (by kernel_rfl) ?_ _
  refine NoPanic.normal ?_
  have B7 := Lib.hid (B4.out.trans (B6.out.mono B4.out.size))
  have HD6 := Lib.hid (DV.below HD.out B7.out)
  have HS6 := Lib.hid ((B6.out.block s9 (Go.NR.heap_lt HS4.out)).trans HS4.out)
  have c0 := cellW V0.out B6.out
  have c1 := cellW V1.out B6.out
  have c2 := cellW V2.out B6.out
  simp at c0 c1 c2
  clear hHeld V0 V1 V2 DC HS4 B4 B6
  go_wp2_with fail
  refine (Try.footAt HD6.out a n h1 hfit he' he0 hok hpg).mono ?_
  rintro x w7 ⟨g, cv, rfl, hcr, hb7, _⟩
  have B8 := Lib.hid (B7.out.trans (hb7.mono B7.out.size))
  have HBF : Hid (Below w0.heap.size w0 (w7.alloc (.cells #[.int .u64 e', .slice (some ⟨g, 0, none⟩) cs.length cv, .slice none 0 0] 48))) := Lib.hid (B8.out.trans (((Below.refl w7.heap.size w7).alloc (Nat.le_refl _) _).mono B8.out.size))
  have HZ4 : Hid ((w7.alloc (.cells #[.int .u64 e', .slice (some ⟨g, 0, none⟩) cs.length cv, .slice none 0 0] 48)).heap[z4]? = some (.cells zero3 70 (0, 0))) := Lib.hid ((HBF.out.block z4 (by have := HZZ.out; omega)).trans HZA.out)
  have HZ5 : Hid ((w7.alloc (.cells #[.int .u64 e', .slice (some ⟨g, 0, none⟩) cs.length cv, .slice none 0 0] 48)).heap[z5]? = some (.cells foot0 48 (0, 0))) := Lib.hid ((HBF.out.block z5 (by have := HZZ.out; omega)).trans HZB.out)
  have HZ5b : Hid (((w7.alloc (.cells #[.int .u64 e', .slice (some ⟨g, 0, none⟩) cs.length cv, .slice none 0 0] 48)).setRow z4 #[.int .u64 0, .int .i64 0, .int .i64 0]).heap[z5]? = some (.cells foot0 48 (0, 0))) := Lib.hid ((Go.NR.setRow_else _ z4 _ z5 (fun q => by have := HZZ.out; omega)).trans HZ5.out)
  have y0 : (w7.alloc (.cells #[.int .u64 e', .slice (some ⟨g, 0, none⟩) cs.length cv, .slice none 0 0] 48)).cell? ⟨s9, 0, none⟩ = some (.int .u64 e) := cellW (cellW c0 hb7) ((Below.refl w7.heap.size w7).alloc (Nat.le_refl _) _)
  clear hb7 c0 c1 c2 HS6 B8 B7 hcr
  go_wp2_with (first
    | (refine wpList_store_at _ rfl 70 (.tmp 4) (.tmp 62) rfl z4 70 0 #[.int .u64 0, .int .i64 0, .int .i64 0] #[.int .u64 0, .int .i64 0, .int .i64 0] #[.int .u64 0, .int .i64 0, .int .i64 0] rfl rfl HZ4.out (show 0 + 3 ≤ 3 by omega) rfl size70 (one3 0 0 0) ?_)
    | (refine wpList_store_at _ rfl 48 (.tmp 5) (.tmp 63) rfl z5 48 0 foot0 foot0 foot0 rfl rfl HZ5b.out (show 0 + 3 ≤ 3 by omega) rfl size48 foot0_one ?_))
  refine bodyPost_ret (results_cell2_tmp rfl _ _ z4 z5 70 48 zero3 foot0 _ _ rfl rfl ((Go.NR.setRow_else _ z5 _ z4 (fun q => by have := HZZ.out; omega)).trans (setRow_heap' _ z4 _ _ 70 HZ4.out)) (setRow_heap' _ z5 _ _ 48 HZ5b.out) size70 size48 st70 st48) rfl ?_
  exact ⟨rfl, WB.out.trans (Below.setRow (Below.setRow (HBF.out.mono WB.out.size) (by have := HZZ.out; omega) _) (by have := HZZ.out; omega) _)⟩
set_option maxHeartbeats 8000000 in
theorem Try.lookOk {w : World} {F : Nat → Prop} {d k i : Nat} {L T : List UInt8} {Q : List (Nat × List UInt8)} (hd : DV w F d k L T Q) (hi : i < k) {e a n : Nat} (he : e < 18446744073709551616) (hei : e % 2 = i) (h1 : 1 ≤ n) (ha : 2 ≤ a) (hfit : a + n ≤ k) (hsup : supG (blk T i) = some (e, a, n)) {cs : List (List UInt8 × Int)} (he0 : e ≠ 0) (hok : chk cs = 0) (hpg : cat T a n = pageB (footB e cs)) :
    Calls Try.prog 53 #[.pointer (some ⟨d, 0, none⟩), .int .i64 i] w (LookOk w e a n cs) := by
  have hdw' := hd
  obtain ⟨lb0, cl0, tb, ct, vw0, ds0, hdw0⟩ := hdw'
  have hk := hdw0.hk
  have h16 : 64 * k ≤ 65536 := by omega
  have hq : 64 * k / 64 = k := by omega
  have HDC := Lib.hid hdw0.c1
  clear hdw0
  have hb1 := (Below.refl w.heap.size w).alloc (Nat.le_refl _) (.cells zero3 70)
  have hn1 := heap_alloc_new w (.cells zero3 70)
  obtain ⟨wa, hwa⟩ : ∃ wa, w.alloc (.cells zero3 70) = wa := ⟨_, rfl⟩
  obtain ⟨z4, hz4⟩ : ∃ z4, w.heap.size = z4 := ⟨_, rfl⟩
  rw [hwa] at hb1 hn1
  rw [hz4] at hn1
  have hb2 := hb1.trans (((Below.refl wa.heap.size wa).alloc (Nat.le_refl _) (.cells foot0 48)).mono hb1.size)
  have hn2 := heap_alloc_new wa (.cells foot0 48)
  have hk2 := (((Below.refl wa.heap.size wa).alloc (Nat.le_refl _) (.cells foot0 48)).block z4 (Go.NR.heap_lt hn1)).trans hn1
  obtain ⟨w0, hw0⟩ : ∃ w0, wa.alloc (.cells foot0 48) = w0 := ⟨_, rfl⟩
  obtain ⟨z5, hz5⟩ : ∃ z5, wa.heap.size = z5 := ⟨_, rfl⟩
  rw [hw0] at hb2 hn2 hk2
  rw [hz5] at hn2
  have HZZ : Hid (z4 < z5 ∧ w.heap.size = z4 ∧ z5 < w0.heap.size) := Lib.hid ⟨by have := Go.NR.heap_lt hn1; omega, hz4, Go.NR.heap_lt hn2⟩
  have HZA := Lib.hid hk2
  have HZB := Lib.hid hn2
  have WB := Lib.hid hb2
  have HD := Lib.hid (DV.below hd hb2)
  have HI := Lib.hid hi
  clear hb1 hb2 hn1 hn2 hk2 hd hi
  go_enter Try.func53, Try.ntmps53
  unfold foot0 at hw0
  unfold zero3 at hwa
  go_upto_region 1 with fail
  (try rw [hwa])
  (try rw [hw0])
  clear hwa hw0 hz4 hz5
  go_wp2_with fail
  obtain ⟨lb, cl, tb1, ct1, vw, ds, hdw⟩ := HD.out
  refine (Try.read_good hdw i (by have := HI.out; omega)).mono ?_
  rintro x w1 ⟨b, c, rfl, z1, z2, z3, hb1⟩
  clear hdw lb cl tb1 ct1 vw ds
  have HDI : Hid (DI w1 (some ⟨b, 0, none⟩) 64 c (blk T i)) := Lib.hid (z3.di 64 z2 (blk_len HD.out HI.out))
  have B1 := Lib.hid hb1
  clear z1 z2 z3 hb1
  go_wp2_with fail
  refine (Try.sget w1 HDI.out (by omega)).mono ?_
  rintro x w2 ⟨hb2, hx⟩
  have B2 := Lib.hid (B1.out.trans (hb2.mono B1.out.size))
  have hx' : x = .returned (.tuple #[.agg #[.int .u64 e, .int .i64 a, .int .i64 n], .int .i64 0]) := by
    rcases hx with ⟨e1, a1, n1, h, _, rfl⟩ | ⟨h, _⟩
    · rw [hsup] at h
      cases h
      rfl
    · rw [hsup] at h
      cases h
  subst hx'
  have hes : ((e : Int) % 2) = (i : Nat) := by omega
  have HEI := Lib.hid hei
  clear hb2 hx B1 HDI hsup hei
  have HB3 := Lib.hid ((Below.refl w2.heap.size w2).alloc (Nat.le_refl _) (.cells #[.int .u64 e, .int .i64 a, .int .i64 n] 70))
  have HN3 := Lib.hid (heap_alloc_new w2 (.cells #[.int .u64 e, .int .i64 a, .int .i64 n] 70))
  go_upto_region 5 with fail
  obtain ⟨w4, hw4⟩ : ∃ w4, w2.alloc (.cells #[.int .u64 e, .int .i64 a, .int .i64 n] 70) = w4 := ⟨_, rfl⟩
  obtain ⟨s9, hs9⟩ : ∃ s9, w2.heap.size = s9 := ⟨_, rfl⟩
  have hb3 := HB3.out
  have hn3 := HN3.out
  rw [hw4] at hb3 hn3
  rw [hs9] at hn3
  have B4 := Lib.hid (B2.out.trans (hb3.mono B2.out.size))
  have V0 := Lib.hid (cell_of_row w4 s9 0 _ 70 _ hn3)
  have V1 := Lib.hid (cell_of_row w4 s9 1 _ 70 _ hn3)
  have V2 := Lib.hid (cell_of_row w4 s9 2 _ 70 _ hn3)
  have HS4 := Lib.hid hn3
  have HS9 : Hid (w0.heap.size ≤ s9) := Lib.hid (by have := B2.out.size; omega)
  have DC : Hid (w4.cell? ⟨d, 1, none⟩ = some (.slice (some ⟨tb, 0, none⟩) (64 * k) ct)) := Lib.hid (cellW HDC.out (WB.out.trans (B4.out.mono WB.out.size)))
  (try rw [hw4])
  (try rw [hs9])
  clear hw4 hs9 hb3 hn3 HB3 HN3
  refine wp_region_noPanic ?_
  refine wp_region_held_drew (S := (fun W => W.cell? ⟨s9, 0, none⟩ = some (.int .u64 e) ∧ W.cell? ⟨s9, 1, none⟩ = some (.int .i64 a) ∧ W.cell? ⟨s9, 2, none⟩ = some (.int .i64 n) ∧ W.cell? ⟨d, 1, none⟩ = some (.slice (some ⟨tb, 0, none⟩) (64 * k) ct))) (by kernel_rfl) ?_ (fun hHeld => ?_)
  · exact ⟨V0.out, V1.out, V2.out, DC.out⟩
  refine wpAnyH_take (i := 0) (oi := { dst := some 27, op := Op.move (Operand.tmp 8), type := 51, pos := "super.go:98", after := #[], guard := none }) (v := ?_) rfl (by kernel_rfl) (by kernel_rfl) (by kernel_rfl) (fun _ _ _ h => h) (Or.inl ⟨by rfl, ?_⟩) (by assumption) ?_
  rotate_left
  · (intro w hSw; (try dsimp only at hSw); go_simp; try with_reducible rfl)
  try simp only [Act.put, List.setIfInBounds_toArray, List.set_cons_zero, List.set_cons_succ]
  refine wpAnyH_take (i := 1) (oi := { dst := some 28, op := Op.binOp BinOp.neq 51 (Operand.tmp 27) (Operand.const (Value.int IntKind.i64 0)) 51, type := 4, pos := "super.go:98", after := #[{ on := 0, ground := Ground.data }], guard := none }) (v := ?_) rfl (by kernel_rfl) (by kernel_rfl) (by kernel_rfl) (fun _ _ _ h => h) (Or.inl ⟨by rfl, ?_⟩) (by assumption) ?_
  rotate_left
  · (intro w hSw; (try dsimp only at hSw); go_simp; try with_reducible rfl)
  try simp only [Act.put, List.setIfInBounds_toArray, List.set_cons_zero, List.set_cons_succ]
  refine wpAnyH_take (i := 2) (oi := { dst := some 29, op := Op.move (Operand.tmp 28), type := 4, pos := "super.go:98", after := #[{ on := 1, ground := Ground.data }], guard := none }) (v := ?_) rfl (by kernel_rfl) (by kernel_rfl) (by kernel_rfl) (fun _ _ _ h => h) (Or.inl ⟨by rfl, ?_⟩) (by assumption) ?_
  rotate_left
  · (intro w hSw; (try dsimp only at hSw); go_simp; try with_reducible rfl)
  try simp only [Act.put, List.setIfInBounds_toArray, List.set_cons_zero, List.set_cons_succ]
  refine wpAnyH_take (i := 3) (oi := { dst := some 30, op := Op.fieldAddr 70 (Operand.tmp 9) 0, type := 0, pos := "super.go:98", after := #[{ on := 2, ground := Ground.guard }], guard := some (2, false) }) (v := ?_) rfl (by kernel_rfl) (by kernel_rfl) (by kernel_rfl) (fun _ _ _ h => h) (Or.inl ⟨by rfl, ?_⟩) (by assumption) ?_
  rotate_left
  · (intro w hSw; (try dsimp only at hSw); go_simp; try with_reducible rfl)
  try simp only [Act.put, List.setIfInBounds_toArray, List.set_cons_zero, List.set_cons_succ]
  refine wpAnyH_take (i := 4) (oi := { dst := some 31, op := Op.load 23 (Operand.tmp 30), type := 23, pos := "super.go:98", after := #[{ on := 3, ground := Ground.data }, { on := 2, ground := Ground.guard }], guard := some (2, false) }) (v := ?_) rfl (by kernel_rfl) (by kernel_rfl) (by kernel_rfl) (fun _ _ _ h => h) (Or.inl ⟨by rfl, ?_⟩) (by assumption) ?_
  rotate_left
  · (intro w hSw; (try dsimp only at hSw); go_simp; try with_reducible rfl)
  try simp only [Act.put, List.setIfInBounds_toArray, List.set_cons_zero, List.set_cons_succ]
  refine wpAnyH_take (i := 6) (oi := { dst := some 33, op := Op.move (Operand.tmp 1), type := 3, pos := "super.go:98", after := #[{ on := 2, ground := Ground.guard }], guard := some (2, false) }) (v := ?_) rfl (by kernel_rfl) (by kernel_rfl) (by kernel_rfl) (fun _ _ _ h => h) (Or.inl ⟨by rfl, ?_⟩) (by assumption) ?_
  rotate_left
  · (intro w hSw; (try dsimp only at hSw); go_simp; try with_reducible rfl)
  try simp only [Act.put, List.setIfInBounds_toArray, List.set_cons_zero, List.set_cons_succ]
  refine wpAnyH_ready (rs := [5]) (by kernel_rfl) (by simp) ?_
  refine AllReadyH.cons (o := { dst := some 32, op := Op.call { callee := Callee.value (Operand.func 43), args := #[Operand.tmp 31], argTypes := #[23] }, type := 3, pos := "super.go:98", after := #[{ on := 4, ground := Ground.data }, { on := 2, ground := Ground.chain }, { on := 2, ground := Ground.guard }], guard := some (2, false) }) rfl (fun K hK => ?_) AllReadyH.nil
  go_simp
  refine (Try.slot e he _).mono ?_
  rintro x5 w5 ⟨rfl, rfl⟩
  rw [hes]
  refine hK.out _ _ ?_ (fun hHeld => ?_)
  · assumption
  clear hK K
  try simp only [Act.put, List.setIfInBounds_toArray, List.set_cons_zero, List.set_cons_succ]
  refine wpAnyH_take (i := 7) (oi := { dst := some 34, op := Op.binOp BinOp.neq 3 (Operand.tmp 32) (Operand.tmp 33) 3, type := 4, pos := "super.go:98", after := #[{ on := 5, ground := Ground.data }, { on := 6, ground := Ground.data }, { on := 2, ground := Ground.guard }], guard := some (2, false) }) (v := ?_) rfl (by kernel_rfl) (by kernel_rfl) (by kernel_rfl) (fun _ _ _ h => h) (Or.inl ⟨by rfl, ?_⟩) (by assumption) ?_
  rotate_left
  · (intro w hSw; (try dsimp only at hSw); go_simp; try with_reducible rfl)
  try simp only [Act.put, List.setIfInBounds_toArray, List.set_cons_zero, List.set_cons_succ]
  refine wpAnyH_take (i := 8) (oi := { dst := some 35, op := Op.pick (Operand.tmp 29) (Operand.const (Value.bool true)) (Operand.tmp 34), type := 4, pos := "super.go:98", after := #[{ on := 2, ground := Ground.data }, { on := 7, ground := Ground.data }], guard := none }) (v := ?_) rfl (by kernel_rfl) (by kernel_rfl) (by kernel_rfl) (fun _ _ _ h => h) (Or.inl ⟨by rfl, ?_⟩) (by assumption) ?_
  rotate_left
  · (intro w hSw; (try dsimp only at hSw); go_simp; try with_reducible rfl)
  try simp only [Act.put, List.setIfInBounds_toArray, List.set_cons_zero, List.set_cons_succ]
  refine wpAnyH_take (i := 9) (oi := { dst := some 36, op := Op.move (Operand.tmp 35), type := 4, pos := "super.go:98", after := #[{ on := 8, ground := Ground.data }, { on := 5, ground := Ground.chain }], guard := none }) (v := ?_) rfl (by kernel_rfl) (by kernel_rfl) (by kernel_rfl) (fun _ _ _ h => h) (Or.inl ⟨by rfl, ?_⟩) (by assumption) ?_
  rotate_left
  · (intro w hSw; (try dsimp only at hSw); go_simp; try with_reducible rfl)
  try simp only [Act.put, List.setIfInBounds_toArray, List.set_cons_zero, List.set_cons_succ]
  refine wpAnyH_take (i := 10) (oi := { dst := some 37, op := Op.fieldAddr 70 (Operand.tmp 9) 1, type := 0, pos := "super.go:98", after := #[{ on := 9, ground := Ground.guard }], guard := some (9, false) }) (v := ?_) rfl (by kernel_rfl) (by kernel_rfl) (by kernel_rfl) (fun _ _ _ h => h) (Or.inl ⟨by rfl, ?_⟩) (by assumption) ?_
  rotate_left
  · (intro w hSw; (try dsimp only at hSw); go_simp; try with_reducible rfl)
  try simp only [Act.put, List.setIfInBounds_toArray, List.set_cons_zero, List.set_cons_succ]
  refine wpAnyH_take (i := 11) (oi := { dst := some 38, op := Op.load 60 (Operand.tmp 37), type := 60, pos := "super.go:98", after := #[{ on := 10, ground := Ground.data }, { on := 9, ground := Ground.guard }], guard := some (9, false) }) (v := ?_) rfl (by kernel_rfl) (by kernel_rfl) (by kernel_rfl) (fun _ _ _ h => h) (Or.inl ⟨by rfl, ?_⟩) (by assumption) ?_
  rotate_left
  · (intro w hSw; (try dsimp only at hSw); go_simp; try with_reducible rfl)
  try simp only [Act.put, List.setIfInBounds_toArray, List.set_cons_zero, List.set_cons_succ]
  refine wpAnyH_take (i := 12) (oi := { dst := some 39, op := Op.move (Operand.tmp 0), type := 63, pos := "super.go:98", after := #[{ on := 9, ground := Ground.guard }], guard := some (9, false) }) (v := ?_) rfl (by kernel_rfl) (by kernel_rfl) (by kernel_rfl) (fun _ _ _ h => h) (Or.inl ⟨by rfl, ?_⟩) (by assumption) ?_
  rotate_left
  · (intro w hSw; (try dsimp only at hSw); go_simp; try with_reducible rfl)
  try simp only [Act.put, List.setIfInBounds_toArray, List.set_cons_zero, List.set_cons_succ]
  refine wpAnyH_ready (rs := [13]) (by kernel_rfl) (by simp) ?_
  refine AllReadyH.cons (o := { dst := some 40, op := Op.call { callee := Callee.value (Operand.func 74), args := #[Operand.tmp 39], argTypes := #[63] }, type := 3, pos := "super.go:98", after := #[{ on := 12, ground := Ground.data }, { on := 9, ground := Ground.chain }, { on := 9, ground := Ground.guard }], guard := some (9, false) }) rfl (fun K hK => ?_) AllReadyH.nil
  go_simp
  refine (Try.blocks d (64 * k) ct _ h16 _ (cellW DC.out (Below.refl _ w4).drew)).mono ?_
  rintro x5 w5 ⟨rfl, rfl⟩
  rw [hq]
  refine hK.out _ _ ?_ (fun hHeld => ?_)
  · assumption
  clear hK K
  try simp only [Act.put, List.setIfInBounds_toArray, List.set_cons_zero, List.set_cons_succ]
  refine wpAnyH_ready (rs := [14]) (by kernel_rfl) (by simp) ?_
  refine AllReadyH.cons (o := { dst := some 41, op := Op.call { callee := Callee.value (Operand.func 77), args := #[Operand.tmp 38, Operand.tmp 40], argTypes := #[60, 3] }, type := 51, pos := "super.go:98", after := #[{ on := 11, ground := Ground.data }, { on := 13, ground := Ground.data }, { on := 13, ground := Ground.chain }, { on := 9, ground := Ground.guard }], guard := some (9, false) }) rfl (fun K hK => ?_) AllReadyH.nil
  go_simp
  refine (Try.extCheck _ a n k h1 ha hfit hk).mono ?_
  rintro x6 w6 ⟨rfl, hb6⟩
  have B6 : Hid (Below w4.heap.size w4 w6) := Lib.hid ((Below.refl _ w4).drew.trans hb6)
  clear hb6
  refine hK.out _ _ ?_ (fun hHeld => ?_)
  · exact ⟨cellW V0.out B6.out, cellW V1.out B6.out, cellW V2.out B6.out, cellW DC.out B6.out⟩
  clear hK K
  try simp only [Act.put, List.setIfInBounds_toArray, List.set_cons_zero, List.set_cons_succ]
  refine wpAnyH_take (i := 15) (oi := { dst := some 42, op := Op.binOp BinOp.neq 51 (Operand.tmp 41) (Operand.const (Value.int IntKind.i64 0)) 51, type := 4, pos := "super.go:98", after := #[{ on := 14, ground := Ground.data }, { on := 9, ground := Ground.guard }], guard := some (9, false) }) (v := ?_) rfl (by kernel_rfl) (by kernel_rfl) (by kernel_rfl) (fun _ _ _ h => h) (Or.inl ⟨by rfl, ?_⟩) (by assumption) ?_
  rotate_left
  · (intro w hSw; (try dsimp only at hSw); go_simp; try with_reducible rfl)
  try simp only [Act.put, List.setIfInBounds_toArray, List.set_cons_zero, List.set_cons_succ]
  refine wpAnyH_take (i := 16) (oi := { dst := some 43, op := Op.pick (Operand.tmp 36) (Operand.const (Value.bool true)) (Operand.tmp 42), type := 4, pos := "super.go:98", after := #[{ on := 9, ground := Ground.data }, { on := 15, ground := Ground.data }], guard := none }) (v := ?_) rfl (by kernel_rfl) (by kernel_rfl) (by kernel_rfl) (fun _ _ _ h => h) (Or.inl ⟨by rfl, ?_⟩) (by assumption) ?_
  rotate_left
  · (intro w hSw; (try dsimp only at hSw); go_simp; try with_reducible rfl)
  try simp only [Act.put, List.setIfInBounds_toArray, List.set_cons_zero, List.set_cons_succ]
  refine wpAnyH_done (by kernel_rfl) ?_ _
  refine NoPanic.normal ?_
  have B7 := Lib.hid (B4.out.trans (B6.out.mono B4.out.size))
  have HD6 := Lib.hid (DV.below HD.out B7.out)
  have HS6 := Lib.hid ((B6.out.block s9 (Go.NR.heap_lt HS4.out)).trans HS4.out)
  have c0 := cellW V0.out B6.out
  have c1 := cellW V1.out B6.out
  have c2 := cellW V2.out B6.out
  simp at c0 c1 c2
  clear hHeld V0 V1 V2 DC HS4 B4 B6
  go_wp2_with fail
  refine (Try.footAt HD6.out a n h1 hfit he he0 hok hpg).mono ?_
  rintro x w7 ⟨g, cv, rfl, hcr, hb7, hgl⟩
  have B8 := Lib.hid (B7.out.trans (hb7.mono B7.out.size))
  have hba := (Below.refl w7.heap.size w7).alloc (Nat.le_refl _) (.cells #[.int .u64 e, .slice (some ⟨g, 0, none⟩) cs.length cv, .slice none 0 0] 48)
  have HBF := Lib.hid (B8.out.trans (hba.mono B8.out.size))
  have HN10 := Lib.hid (heap_alloc_new w7 (.cells #[.int .u64 e, .slice (some ⟨g, 0, none⟩) cs.length cv, .slice none 0 0] 48))
  have HS9b := Lib.hid ((hba.block s9 (Nat.lt_of_lt_of_le (Go.NR.heap_lt HS6.out) hb7.size)).trans ((hb7.block s9 (Go.NR.heap_lt HS6.out)).trans HS6.out))
  have HCRb := Lib.hid (hcr.below hba)
  have y0 : (w7.alloc (.cells #[.int .u64 e, .slice (some ⟨g, 0, none⟩) cs.length cv, .slice none 0 0] 48)).cell? ⟨s9, 0, none⟩ = some (.int .u64 e) := cellW (cellW c0 hb7) hba
  have HGL : Hid (w0.heap.size ≤ g) := Lib.hid (by have := B7.out.size; omega)
  have HS10 : Hid (w0.heap.size ≤ w7.heap.size) := Lib.hid B8.out.size
  clear hb7 c0 c1 c2 HS6 B8 B7 hcr hba hgl
  go_upto_region 10 with fail
  clear y0
  obtain ⟨w9, hw9⟩ : ∃ w9, w7.alloc (.cells #[.int .u64 e, .slice (some ⟨g, 0, none⟩) cs.length cv, .slice none 0 0] 48) = w9 := ⟨_, rfl⟩
  obtain ⟨s10, hs10⟩ : ∃ s10, w7.heap.size = s10 := ⟨_, rfl⟩
  rw [hw9] at HBF HN10 HS9b HCRb
  rw [hs10] at HN10 HS10
  (try rw [hw9])
  (try rw [hs10])
  have HZ4 : Hid (w9.drew.heap[z4]? = some (.cells zero3 70 (0, 0))) := Lib.hid ((HBF.out.block z4 (by have := HZZ.out; omega)).trans HZA.out)
  have HZ5 : Hid (w9.drew.heap[z5]? = some (.cells foot0 48 (0, 0))) := Lib.hid ((HBF.out.block z5 (by have := HZZ.out; omega)).trans HZB.out)
  have HZ5b : Hid ((w9.drew.setRow z4 #[.int .u64 e, .int .i64 a, .int .i64 n]).heap[z5]? = some (.cells foot0 48 (0, 0))) := Lib.hid ((Go.NR.setRow_else _ z4 _ z5 (fun q => by have := HZZ.out; omega)).trans HZ5.out)
  have U0 := Lib.hid (cell_of_row w9 s9 0 _ 70 _ HS9b.out)
  have U1 := Lib.hid (cell_of_row w9 s9 1 _ 70 _ HS9b.out)
  have U2 := Lib.hid (cell_of_row w9 s9 2 _ 70 _ HS9b.out)
  have U3 := Lib.hid (cell_of_row w9 s10 0 _ 48 _ HN10.out)
  have U4 := Lib.hid (cell_of_row w9 s10 1 _ 48 _ HN10.out)
  have U5 := Lib.hid (cell_of_row w9 s10 2 _ 48 _ HN10.out)
  have HNE94 : Hid (s9 ≠ z4) := Lib.hid (fun q => by have := HZZ.out; have := HS9.out; omega)
  have HNE95 : Hid (s9 ≠ z5) := Lib.hid (fun q => by have := HZZ.out; have := HS9.out; omega)
  have HNE104 : Hid (s10 ≠ z4) := Lib.hid (fun q => by have := HZZ.out; have := HS10.out; omega)
  have HNE105 : Hid (s10 ≠ z5) := Lib.hid (fun q => by have := HZZ.out; have := HS10.out; omega)
  clear hw9 hs10
  refine wp_region_noPanic ?_
  refine wp_region_held_drew (S := (fun W => W.cell? ⟨s9, 0, none⟩ = some (.int .u64 e) ∧ W.cell? ⟨s9, 1, none⟩ = some (.int .i64 a) ∧ W.cell? ⟨s9, 2, none⟩ = some (.int .i64 n) ∧ W.cell? ⟨s10, 0, none⟩ = some (.int .u64 e) ∧ W.cell? ⟨s10, 1, none⟩ = some (.slice (some ⟨g, 0, none⟩) cs.length cv) ∧ W.cell? ⟨s10, 2, none⟩ = some (.slice none 0 0))) (by kernel_rfl) ?_ (fun hHeld => ?_)
  · exact ⟨U0.out, U1.out, U2.out, U3.out, U4.out, U5.out⟩
  refine wpAnyH_take (i := 0) (oi := { dst := some 64, op := Op.load 70 (Operand.tmp 9), type := 70, pos := "super.go:105", after := #[], guard := none }) (v := ?_) rfl (by kernel_rfl) (by kernel_rfl) (by kernel_rfl) (fun _ _ _ h => h) (Or.inl ⟨by rfl, ?_⟩) (by assumption) ?_
  rotate_left
  · (intro w hSw; (try dsimp only at hSw); go_simp; try with_reducible rfl)
  try simp only [Act.put, List.setIfInBounds_toArray, List.set_cons_zero, List.set_cons_succ]
  refine wpAnyH_take (i := 1) (oi := { dst := some 65, op := Op.load 48 (Operand.tmp 10), type := 48, pos := "super.go:105", after := #[{ on := 2, ground := Ground.gcOnly Departure.lateStores }], guard := none }) (v := ?_) rfl (by kernel_rfl) (by kernel_rfl) (by kernel_rfl) (fun _ _ _ h => h) (Or.inl ⟨by rfl, ?_⟩) (by assumption) ?_
  rotate_left
  · (intro w hSw; (try dsimp only at hSw); go_simp; try with_reducible rfl)
  try simp only [Act.put, List.setIfInBounds_toArray, List.set_cons_zero, List.set_cons_succ]
  refine wpAnyH_ready (rs := [2]) (by kernel_rfl) (by simp) ?_
  refine AllReadyH.cons (o := { dst := none, op := Op.store 70 (Operand.tmp 4) (Operand.tmp 64), type := 0, pos := "super.go:105", after := #[{ on := 0, ground := Ground.data }, { on := 0, ground := Ground.phase }, { on := 1, ground := Ground.textOnly Departure.lateStores }], guard := none }) rfl (fun K hK => ?_) AllReadyH.nil
  refine oper_store_at _ 70 (.tmp 4) (.tmp 64) rfl z4 70 0 #[.int .u64 e, .int .i64 a, .int .i64 n] #[.int .u64 0, .int .i64 0, .int .i64 0] #[.int .u64 e, .int .i64 a, .int .i64 n] rfl rfl HZ4.out (show 0 + 3 ≤ 3 by omega) rfl size70 (one3 e a n) ?_
  refine hK.out _ _ ?_ (fun hHeld => ?_)
  · exact ⟨(World.cell?_of_block (Go.NR.setRow_else _ z4 _ s9 HNE94.out)).trans U0.out, (World.cell?_of_block (Go.NR.setRow_else _ z4 _ s9 HNE94.out)).trans U1.out, (World.cell?_of_block (Go.NR.setRow_else _ z4 _ s9 HNE94.out)).trans U2.out, (World.cell?_of_block (Go.NR.setRow_else _ z4 _ s10 HNE104.out)).trans U3.out, (World.cell?_of_block (Go.NR.setRow_else _ z4 _ s10 HNE104.out)).trans U4.out, (World.cell?_of_block (Go.NR.setRow_else _ z4 _ s10 HNE104.out)).trans U5.out⟩
  clear hK K
  try simp only [Act.put, List.setIfInBounds_toArray, List.set_cons_zero, List.set_cons_succ]
  refine wpAnyH_ready (rs := [3]) (by kernel_rfl) (by simp) ?_
  refine AllReadyH.cons (o := { dst := none, op := Op.store 48 (Operand.tmp 5) (Operand.tmp 65), type := 0, pos := "super.go:105", after := #[{ on := 1, ground := Ground.data }, { on := 2, ground := Ground.chain }, { on := 0, ground := Ground.phase }, { on := 1, ground := Ground.phase }, { on := 2, ground := Ground.phase }], guard := none }) rfl (fun K hK => ?_) AllReadyH.nil
  refine oper_store_at _ 48 (.tmp 5) (.tmp 65) rfl z5 48 0 #[.int .u64 e, .slice (some ⟨g, 0, none⟩) cs.length cv, .slice none 0 0] foot0 #[.int .u64 e, .slice (some ⟨g, 0, none⟩) cs.length cv, .slice none 0 0] rfl rfl HZ5b.out (show 0 + 3 ≤ 3 by omega) rfl size48 (oneF e g cs.length cv) ?_
  refine hK.out _ _ ?_ (fun hHeld => ?_)
  · exact ⟨(World.cell?_of_block ((Go.NR.setRow_else _ z5 _ s9 HNE95.out).trans (Go.NR.setRow_else _ z4 _ s9 HNE94.out))).trans U0.out, (World.cell?_of_block ((Go.NR.setRow_else _ z5 _ s9 HNE95.out).trans (Go.NR.setRow_else _ z4 _ s9 HNE94.out))).trans U1.out, (World.cell?_of_block ((Go.NR.setRow_else _ z5 _ s9 HNE95.out).trans (Go.NR.setRow_else _ z4 _ s9 HNE94.out))).trans U2.out, (World.cell?_of_block ((Go.NR.setRow_else _ z5 _ s10 HNE105.out).trans (Go.NR.setRow_else _ z4 _ s10 HNE104.out))).trans U3.out, (World.cell?_of_block ((Go.NR.setRow_else _ z5 _ s10 HNE105.out).trans (Go.NR.setRow_else _ z4 _ s10 HNE104.out))).trans U4.out, (World.cell?_of_block ((Go.NR.setRow_else _ z5 _ s10 HNE105.out).trans (Go.NR.setRow_else _ z4 _ s10 HNE104.out))).trans U5.out⟩
  clear hK K
  try simp only [Act.put, List.setIfInBounds_toArray, List.set_cons_zero, List.set_cons_succ]
  refine wpAnyH_take (i := 4) (oi := { dst := some 6, op := Op.assign (Operand.const (Value.bool true)), type := 4, pos := "super.go:105", after := #[{ on := 3, ground := Ground.chain }, { on := 0, ground := Ground.phase }, { on := 1, ground := Ground.phase }, { on := 2, ground := Ground.phase }, { on := 3, ground := Ground.phase }], guard := none }) (v := ?_) rfl (by kernel_rfl) (by kernel_rfl) (by kernel_rfl) (fun _ _ _ h => h) (Or.inl ⟨by rfl, ?_⟩) (by assumption) ?_
  rotate_left
  · (intro w hSw; (try dsimp only at hSw); go_simp; try with_reducible rfl)
  try simp only [Act.put, List.setIfInBounds_toArray, List.set_cons_zero, List.set_cons_succ]
  refine wpAnyH_done (by kernel_rfl) ?_ _
  refine NoPanic.normal ?_
  go_wp2_with fail
  refine bodyPost_ret (results_cell2_tmp rfl _ _ z4 z5 70 48 #[.int .u64 e, .int .i64 a, .int .i64 n] #[.int .u64 e, .slice (some ⟨g, 0, none⟩) cs.length cv, .slice none 0 0] _ _ rfl rfl ((Go.NR.setRow_else _ z5 _ z4 (fun q => by have := HZZ.out; omega)).trans (setRow_heap' _ z4 _ _ 70 HZ4.out)) (setRow_heap' _ z5 _ _ 48 HZ5b.out) size70 size48 st70 st48) rfl ?_
  have hzz := HZZ.out
  have hgl := HGL.out
  have hws := WB.out.size
  refine ⟨g, cv, rfl, ?_, WB.out.trans (Below.setRow (Below.setRow ((HBF.out.drew).mono WB.out.size) (by omega) _) (by omega) _), by omega⟩
  obtain ⟨k1, k2, k3, k4⟩ := HCRb.out
  refine ⟨k1, k2, k3, fun j q hj => ?_⟩
  obtain ⟨g', e1, c1, c2⟩ := k4 j q hj
  cases e1
  have hgg : ((w9.drew.setRow z4 #[.int .u64 e, .int .i64 a, .int .i64 n]).setRow z5 #[.int .u64 e, .slice (some ⟨g, 0, none⟩) cs.length cv, .slice none 0 0]).heap[g]? = w9.heap[g]? := (Go.NR.setRow_else _ z5 _ g (by omega)).trans (Go.NR.setRow_else _ z4 _ g (by omega))
  exact ⟨g, rfl, (World.cell?_of_block hgg).trans c1, (World.cell?_of_block hgg).trans c2⟩
end Go.Proofs.Ytfblhcphbcghpaa
end

section
namespace Go.Proofs.Ytfblhcphbcghpaa
open Go.RowKit
set_option maxRecDepth 100000
def LookU (w : World) (r : Nat × Nat × Nat) (x : Ending) (w' : World) : Prop := ∃ A m c, x = .returned (.tuple #[.agg #[.int .u64 r.1, .int .i64 r.2.1, .int .i64 r.2.2], .agg #[.int .u64 r.1, .slice A m c, .slice none 0 0], .bool (decide (r.1 ≠ 0))]) ∧ Below w.heap.size w w'
theorem lookU_no {w w' : World} {x : Ending} (h : LookNo w x w') : LookU w (0, 0, 0) x w' := ⟨none, 0, 0, by rw [h.1]; rfl, h.2⟩
theorem lookU_ok {w w' : World} {x : Ending} {e a n : Nat} {cs : List (List UInt8 × Int)} (he : e ≠ 0) (h : LookOk w e a n cs x w') : LookU w (e, a, n) x w' := by
  obtain ⟨g, c, hx, _, hb, _⟩ := h
  exact ⟨_, _, c, by rw [hx, decide_eq_true (show (e, a, n).1 ≠ 0 from he)], hb⟩
def yng (x y : Nat × Nat × Nat) : Nat × Nat × Nat := if x.1 < y.1 then y else x
structure FS (w wr : World) (z2 z3 s5 s6 E A N : Nat) (X : Option Addr) (m c : Nat) : Prop where
  be : Below w.heap.size w wr
  h2 : wr.heap[z2]? = some (.cells zero3 70 (0, 0))
  h3 : wr.heap[z3]? = some (.cells foot0 48 (0, 0))
  h5 : wr.heap[s5]? = some (.cells #[.int .u64 E, .int .i64 A, .int .i64 N] 70 (0, 0))
  h6 : wr.heap[s6]? = some (.cells #[.int .u64 E, .slice X m c, .slice none 0 0] 48 (0, 0))
  ord : w.heap.size ≤ z2 ∧ z2 < z3 ∧ z3 < s5 ∧ s5 < s6
theorem FS.below {w wr w' : World} {z2 z3 s5 s6 E A N : Nat} {X : Option Addr} {m c : Nat} (h : FS w wr z2 z3 s5 s6 E A N X m c) (hb : Below wr.heap.size wr w') : FS w w' z2 z3 s5 s6 E A N X m c :=
  ⟨h.be.trans (hb.mono h.be.size), (hb.block z2 (Go.NR.heap_lt h.h2)).trans h.h2, (hb.block z3 (Go.NR.heap_lt h.h3)).trans h.h3, (hb.block s5 (Go.NR.heap_lt h.h5)).trans h.h5, (hb.block s6 (Go.NR.heap_lt h.h6)).trans h.h6, h.ord⟩
theorem FS.drew {w wr : World} {z2 z3 s5 s6 E A N : Nat} {X : Option Addr} {m c : Nat} (h : FS w wr z2 z3 s5 s6 E A N X m c) : FS w wr.drew z2 z3 s5 s6 E A N X m c := h.below (Below.refl _ wr).drew
theorem FS.turn {w wr : World} {z2 z3 s5 s6 E A N : Nat} {X : Option Addr} {m c : Nat} (h : FS w wr z2 z3 s5 s6 E A N X m c) (e a n : Nat) (Y : Option Addr) (m' c' : Nat) :
    FS w ((wr.setRow s5 #[.int .u64 e, .int .i64 a, .int .i64 n]).setRow s6 #[.int .u64 e, .slice Y m' c', .slice none 0 0]) z2 z3 s5 s6 e a n Y m' c' := by
  have ho := h.ord
  refine ⟨Below.setRow (Below.setRow h.be (by omega) _) (by omega) _, (Go.NR.setRow_else _ s6 _ z2 (by omega)).trans ((Go.NR.setRow_else _ s5 _ z2 (by omega)).trans h.h2), (Go.NR.setRow_else _ s6 _ z3 (by omega)).trans ((Go.NR.setRow_else _ s5 _ z3 (by omega)).trans h.h3), (Go.NR.setRow_else _ s6 _ s5 (by omega)).trans (setRow_heap' _ s5 _ _ 70 h.h5), setRow_heap' _ s6 _ _ 48 ((Go.NR.setRow_else _ s5 _ s6 (by omega)).trans h.h6), ho⟩
theorem FS.start (w : World) : FS w ((((w.alloc (.cells zero3 70)).alloc (.cells foot0 48)).alloc (.cells zero3 70)).alloc (.cells foot0 48)) w.heap.size (w.heap.size + 1) (w.heap.size + 2) (w.heap.size + 3) 0 0 0 none 0 0 := by
  have h1 := heap_alloc_new w (.cells zero3 70)
  obtain ⟨wa, hwa⟩ : ∃ wa, w.alloc (.cells zero3 70) = wa := ⟨_, rfl⟩
  have hsa : wa.heap.size = w.heap.size + 1 := by rw [← hwa]; simp
  have b1 := (Below.refl w.heap.size w).alloc (Nat.le_refl _) (.cells zero3 70)
  rw [hwa] at h1 b1 ⊢
  have h2 := heap_alloc_new wa (.cells foot0 48)
  obtain ⟨wb, hwb⟩ : ∃ wb, wa.alloc (.cells foot0 48) = wb := ⟨_, rfl⟩
  have hsb : wb.heap.size = w.heap.size + 2 := by rw [← hwb]; simp [hsa]
  have b2 := (Below.refl wa.heap.size wa).alloc (Nat.le_refl _) (.cells foot0 48)
  rw [hwb] at h2 b2 ⊢
  have h3 := heap_alloc_new wb (.cells zero3 70)
  obtain ⟨wc, hwc⟩ : ∃ wc, wb.alloc (.cells zero3 70) = wc := ⟨_, rfl⟩
  have hsc : wc.heap.size = w.heap.size + 3 := by rw [← hwc]; simp [hsb]
  have b3 := (Below.refl wb.heap.size wb).alloc (Nat.le_refl _) (.cells zero3 70)
  rw [hwc] at h3 b3 ⊢
  have h4 := heap_alloc_new wc (.cells foot0 48)
  obtain ⟨wd, hwd⟩ : ∃ wd, wc.alloc (.cells foot0 48) = wd := ⟨_, rfl⟩
  have b4 := (Below.refl wc.heap.size wc).alloc (Nat.le_refl _) (.cells foot0 48)
  rw [hwd] at h4 b4 ⊢
  rw [hsa] at h2 b2
  rw [hsb] at h3 b3
  rw [hsc] at h4 b4
  refine ⟨b1.trans ((b2.mono (by omega)).trans ((b3.mono (by omega)).trans (b4.mono (by omega)))), ?_, ?_, ?_, h4, by omega⟩
  · exact (b4.block _ (by omega)).trans ((b3.block _ (by omega)).trans ((b2.block _ (by omega)).trans h1))
  · exact (b4.block _ (by omega)).trans ((b3.block _ (by omega)).trans h2)
  · exact (b4.block _ (by omega)).trans h3
def Found (w : World) (r : Nat × Nat × Nat) (x : Ending) (w' : World) : Prop := ∃ A m c, x = .returned (.tuple #[.agg #[.int .u64 r.1, .int .i64 r.2.1, .int .i64 r.2.2], .agg #[.int .u64 r.1, .slice A m c, .slice none 0 0], .int .i64 (if r.1 = 0 then 11 else 0)]) ∧ Below w.heap.size w w'
def ini (r : Nat → Nat × Nat × Nat) (i : Nat) : Nat × Nat × Nat := if i = 0 then (0, 0, 0) else yng (0, 0, 0) (r 0)
theorem ini_next (r : Nat → Nat × Nat × Nat) (i : Nat) (hi : i < 2) (x : Nat × Nat × Nat) (hx : x = yng (ini r i) (r i)) (h0 : i = 0) : x = ini r (i + 1) := by
  subst h0
  rw [hx]
  rfl
theorem yng_zero (x y : Nat × Nat × Nat) (h : (yng (yng (0, 0, 0) x) y).1 = 0) : yng (yng (0, 0, 0) x) y = (0, 0, 0) := by
  unfold yng at h ⊢
  by_cases h1 : 0 < x.1
  · rw [if_pos (show (0, 0, 0).1 < x.1 from h1)] at h ⊢
    by_cases h2 : x.1 < y.1
    · rw [if_pos h2] at h; omega
    · rw [if_neg h2] at h; omega
  · rw [if_neg (show ¬ (0, 0, 0).1 < x.1 from h1)] at h ⊢
    by_cases h2 : 0 < y.1
    · rw [if_pos (show (0, 0, 0).1 < y.1 from h2)] at h; omega
    · rw [if_neg (show ¬ (0, 0, 0).1 < y.1 from h2)]
theorem alloc2 (w : World) (o o' : Obj) : ∃ w4 s8 s9, (w.alloc o).alloc o' = w4 ∧ w.heap.size = s8 ∧ s8 + 1 = s9 ∧ Below w.heap.size w w4 ∧ w4.heap[s8]? = some o ∧ w4.heap[s9]? = some o' := by
  have h1 := heap_alloc_new w o
  have b1 := (Below.refl w.heap.size w).alloc (Nat.le_refl _) o
  obtain ⟨wa, hwa⟩ : ∃ wa, w.alloc o = wa := ⟨_, rfl⟩
  have hsa : wa.heap.size = w.heap.size + 1 := by rw [← hwa]; simp
  rw [hwa] at h1 b1 ⊢
  have h2 := heap_alloc_new wa o'
  have b2 := (Below.refl wa.heap.size wa).alloc (Nat.le_refl _) o'
  rw [hsa] at h2 b2
  exact ⟨_, _, _, rfl, rfl, rfl, b1.trans (b2.mono (by omega)), (b2.block _ (by omega)).trans h1, h2⟩
theorem oneS (e : Nat) (X : Option Addr) (m c : Nat) : ∀ u ∈ (#[Value.int .u64 (e : Int), .slice X m c, .slice none 0 0] : Array Value).toList, u.oneCell' = true := by
  intro u hu
  simp at hu
  rcases hu with rfl | rfl | rfl <;> rfl
set_option maxHeartbeats 8000000 in
theorem Try.sfind {w : World} {F : Nat → Prop} {d k : Nat} {L T : List UInt8} {Q : List (Nat × List UInt8)} (hd : DV w F d k L T Q) (r : Nat → Nat × Nat × Nat)
    (hl : ∀ i, i < 2 → ∀ w', DV w' F d k L T Q → Calls Try.prog 53 #[.pointer (some ⟨d, 0, none⟩), .int .i64 (i : Nat)] w' (LookU w' (r i))) :
    Calls Try.prog 19 #[.pointer (some ⟨d, 0, none⟩)] w (Found w (yng (yng (0, 0, 0) (r 0)) (r 1))) := by
  have HD := Lib.hid hd
  have HL := Lib.hid hl
  have HS := Lib.hid (FS.start w)
  clear hd hl
  go_enter Try.func19, Try.ntmps19
  go_wp2
  refine Go.NR.wp_scope_once 0 (fun a' wr => ∃ (i z2 z3 s5 s6 E A N : Nat) (X : Option Addr) (m c : Nat), i < 2 ∧ FS w wr z2 z3 s5 s6 E A N X m c ∧ (E, A, N) = ini r i ∧ ∃ u1 u8 u9 u10 u11 u12 u13 u14 u15 u16 u17 u18 u19 u20 u21 u22 u23 u24 u25 u26 u27 u28 u29 u30 u31 u32 u33 u34 u35 u36 u37 u38 : Value, a' = { tmps := #[.pointer (some ⟨d, 0, none⟩), u1, .pointer (some ⟨z2, 0, none⟩), .pointer (some ⟨z3, 0, none⟩), .int .i64 0, .pointer (some ⟨s5, 0, none⟩), .pointer (some ⟨s6, 0, none⟩), .int .i64 i, u8, u9, u10, u11, u12, u13, u14, u15, u16, u17, u18, u19, u20, u21, u22, u23, u24, u25, u26, u27, u28, u29, u30, u31, u32, u33, u34, u35, u36, u37, u38], defers := [] }) (fun a' _ => 2 - (intOf (a'.tmps.getD 7 undef)).toNat) rfl ?_ ?_
  · intro hJ
    go_wp2_with (refine wp_label ?_; rename_i Q0 K0 hK; refine hK _ _ (hJ _ _ ?_); exact ⟨0, _, _, _, _, 0, 0, 0, none, 0, 0, Nat.zero_lt_two, HS.out, rfl, _, _, _, _, _, _, _, _, _, _, _, _, _, _, _, _, _, _, _, _, _, _, _, _, _, _, _, _, _, _, _, _, rfl⟩)
  · rintro a' wr ⟨i, z2, z3, s5, s6, E, A, N, X, m, c, hi, hf, hE, u1, u8, u9, u10, u11, u12, u13, u14, u15, u16, u17, u18, u19, u20, u21, u22, u23, u24, u25, u26, u27, u28, u29, u30, u31, u32, u33, u34, u35, u36, u37, u38, rfl⟩
    obtain ⟨⟨e, a, n⟩, hr⟩ : ∃ q, r i = q := ⟨_, rfl⟩
    have HF := Lib.hid hf
    have HE := Lib.hid hE
    have HR := Lib.hid hr
    have HI := Lib.hid hi
    clear hf hE hi
    go_wp2_with fail
    refine (HL.out i HI.out wr (DV.below HD.out HF.out.be)).mono ?_
    rintro x w1 ⟨Y, m', c', rfl, hb1⟩
    rw [hr]
    clear hr
    dsimp only
    have F1 := Lib.hid (HF.out.below hb1)
    clear hb1 HF
    go_upto_region 5 with fail
    obtain ⟨w4, s8, s9, hw4, hs8, hs9, hb4, h8, h9⟩ := alloc2 w1 (.cells #[.int .u64 e, .int .i64 a, .int .i64 n] 70) (.cells #[.int .u64 e, .slice Y m' c', .slice none 0 0] 48)
    rw [hw4]
    rw [hs8]
    rw [hs9]
    have F4 := Lib.hid (F1.out.below hb4)
    have HO : Hid (s6 < s8 ∧ s8 < s9) := Lib.hid ⟨by have := Go.NR.heap_lt F1.out.h6; omega, by omega⟩
    have V0 := cell_of_row w4 s8 0 _ 70 _ h8
    have V5 := cell_of_row w4 s5 0 _ 70 _ F4.out.h5
    simp at V0 V5
    have H8 := Lib.hid h8
    have H9 := Lib.hid h9
    clear hw4 hs8 hs9 hb4 h8 h9 F1
    obtain ⟨bb, hbb⟩ : ∃ bb, (!decide (e = 0)) = bb := ⟨_, rfl⟩
    rw [hbb]
    have HBB := Lib.hid hbb
    clear hbb
    cases bb
    · go_upto_region 7 with fail
      clear V0 V5 H8 H9 HO
      have FN := F4
      have HX : Hid ((E, A, N) = yng (ini r i) (r i)) := Lib.hid (by
        have := HBB.out
        simp at this
        rw [← HE.out, HR.out]
        unfold yng
        rw [if_neg (by show ¬ E < e; omega)])
      clear F4 HBB HE HR
      have hi := HI.out
      have w0 : IntKind.i64.wrap ((i : Int) + 1) = (i : Int) + 1 := wrapi (by omega) (by omega)
      have hb : i < 10 := by omega
      by_cases h0 : i = 0
      · have d1 : decide ((i : Int) + 1 < 2) = true := decide_eq_true (by omega)
        have H0 := Lib.hid h0
        clear h0 hi
        go_wp2
        go_step3
        exact ⟨rfl, ⟨i + 1, z2, z3, s5, s6, E, A, N, X, m, c, by have := H0.out; omega, FN.out, ini_next r i HI.out _ HX.out H0.out, _, _, _, _, _, _, _, _, _, _, _, _, _, _, _, _, _, _, _, _, _, _, _, _, _, _, _, _, _, _, _, _, rfl⟩, by have := HI.out; simp [intOf]; omega⟩
      · have d1 : decide ((i : Int) + 1 < 2) = false := decide_eq_false (by omega)
        obtain rfl : i = 1 := by omega
        have HY : Hid ((E, A, N) = yng (yng (0, 0, 0) (r 0)) (r 1)) := HX
        have V5 := cell_of_row w4 s5 0 _ 70 _ FN.out.h5
        simp at V5
        have HZ3 : Hid (∀ cs, (w4.setRow z2 cs).heap[z3]? = some (.cells foot0 48 (0, 0))) := Lib.hid (fun cs => (Go.NR.setRow_else _ z2 _ z3 (by have := FN.out.ord; omega)).trans FN.out.h3)
        clear w0 hi hb d1 h0 HI HX
        by_cases hz : E = 0
        · have HQ : (E, A, N) = (0, 0, 0) := by
            rw [HY.out]
            refine yng_zero _ _ ?_
            rw [← HY.out]
            exact hz
          have HYZ : Hid (yng (yng (0, 0, 0) (r 0)) (r 1) = (0, 0, 0)) := Lib.hid (by rw [← HY.out]; exact HQ)
          have HW := Lib.hid FN.out.h2
          have HBE := Lib.hid FN.out.be
          have HOR := Lib.hid FN.out.ord
          have hzi : (E : Int) = 0 := by omega
          have dz : decide (E = 0) = true := decide_eq_true hz
          rw [hzi] at V5
          clear HQ hz HY FN dz hzi
          go_wp2_with (first
            | (refine wpList_store_at _ rfl 70 (.tmp 2) (.tmp 35) rfl z2 70 0 zero3 zero3 zero3 rfl rfl HW.out (show 0 + 3 ≤ 3 by omega) rfl size70 (one3 0 0 0) ?_)
            | (refine wpList_store_at _ rfl 48 (.tmp 3) (.tmp 36) rfl z3 48 0 foot0 foot0 foot0 rfl rfl (HZ3.out _) (show 0 + 3 ≤ 3 by omega) rfl size48 foot0_one ?_))
          refine bodyPost_ret (results_cell2_tmp rfl _ _ z2 z3 70 48 zero3 foot0 _ _ rfl rfl ((Go.NR.setRow_else _ z3 _ z2 (fun q => by have := HOR.out; omega)).trans (setRow_heap' _ z2 _ _ 70 HW.out)) (setRow_heap' _ z3 _ _ 48 (HZ3.out _)) size70 size48 st70 st48) rfl ?_
          refine ⟨none, 0, 0, ?_, Below.setRow (Below.setRow HBE.out (by have := HOR.out; omega) _) (by have := HOR.out; omega) _⟩
          rw [HYZ.out]
          rfl
        · have dz : decide (E = 0) = false := decide_eq_false hz
          have dz' : ((E : Int) == 0) = false := by simp; omega
          have HZ := Lib.hid hz
          clear hz
          go_upto_region 11 with fail
          clear V5 dz dz'
          have U0 := Lib.hid (cell_of_row w4 s5 0 _ 70 _ FN.out.h5)
          have U1 := Lib.hid (cell_of_row w4 s5 1 _ 70 _ FN.out.h5)
          have U2 := Lib.hid (cell_of_row w4 s5 2 _ 70 _ FN.out.h5)
          have U3 := Lib.hid (cell_of_row w4 s6 0 _ 48 _ FN.out.h6)
          have U4 := Lib.hid (cell_of_row w4 s6 1 _ 48 _ FN.out.h6)
          have U5 := Lib.hid (cell_of_row w4 s6 2 _ 48 _ FN.out.h6)
          have HZ5 : Hid (w4.drew.heap[z2]? = some (.cells zero3 70 (0, 0))) := Lib.hid FN.out.h2
          have HZ6b : Hid ((w4.drew.setRow z2 #[.int .u64 E, .int .i64 A, .int .i64 N]).heap[z3]? = some (.cells foot0 48 (0, 0))) := Lib.hid ((Go.NR.setRow_else _ z2 _ z3 (fun q => by have := FN.out.ord; omega)).trans FN.out.h3)
          have HNEs5z2 : Hid (s5 ≠ z2) := Lib.hid (fun q => by have := FN.out.ord; omega)
          have HNEs5z3 : Hid (s5 ≠ z3) := Lib.hid (fun q => by have := FN.out.ord; omega)
          have HNEs6z2 : Hid (s6 ≠ z2) := Lib.hid (fun q => by have := FN.out.ord; omega)
          have HNEs6z3 : Hid (s6 ≠ z3) := Lib.hid (fun q => by have := FN.out.ord; omega)
          refine wp_region_noPanic ?_
          refine wp_region_held_drew (S := (fun W => W.cell? ⟨s5, 0, none⟩ = some (.int .u64 E) ∧ W.cell? ⟨s5, 1, none⟩ = some (.int .i64 A) ∧ W.cell? ⟨s5, 2, none⟩ = some (.int .i64 N) ∧ W.cell? ⟨s6, 0, none⟩ = some (.int .u64 E) ∧ W.cell? ⟨s6, 1, none⟩ = some (.slice X m c) ∧ W.cell? ⟨s6, 2, none⟩ = some (.slice none 0 0))) (by kernel_rfl) ?_ (fun hHeld => ?_)
          · exact ⟨U0.out, U1.out, U2.out, U3.out, U4.out, U5.out⟩
          refine wpAnyH_take (i := 0) (oi := { dst := some 37, op := Op.load 70 (Operand.tmp 5), type := 70, pos := "super.go:88", after := #[], guard := none }) (v := ?_) rfl (by kernel_rfl) (by kernel_rfl) (by kernel_rfl) (fun _ _ _ h => h) (Or.inl ⟨by rfl, ?_⟩) (by assumption) ?_
          rotate_left
          · (intro w hSw; (try dsimp only at hSw); go_simp; try with_reducible rfl)
          try simp only [Act.put, List.setIfInBounds_toArray, List.set_cons_zero, List.set_cons_succ]
          refine wpAnyH_take (i := 1) (oi := { dst := some 38, op := Op.load 48 (Operand.tmp 6), type := 48, pos := "super.go:88", after := #[{ on := 2, ground := Ground.gcOnly Departure.lateStores }], guard := none }) (v := ?_) rfl (by kernel_rfl) (by kernel_rfl) (by kernel_rfl) (fun _ _ _ h => h) (Or.inl ⟨by rfl, ?_⟩) (by assumption) ?_
          rotate_left
          · (intro w hSw; (try dsimp only at hSw); go_simp; try with_reducible rfl)
          try simp only [Act.put, List.setIfInBounds_toArray, List.set_cons_zero, List.set_cons_succ]
          refine wpAnyH_ready (rs := [2]) (by kernel_rfl) (by simp) ?_
          refine AllReadyH.cons (o := { dst := none, op := Op.store 70 (Operand.tmp 2) (Operand.tmp 37), type := 0, pos := "super.go:88", after := #[{ on := 0, ground := Ground.data }, { on := 0, ground := Ground.phase }, { on := 1, ground := Ground.textOnly Departure.lateStores }], guard := none }) rfl (fun K hK => ?_) AllReadyH.nil
          refine oper_store_at _ 70 (.tmp 2) (.tmp 37) rfl z2 70 0 #[.int .u64 E, .int .i64 A, .int .i64 N] zero3 #[.int .u64 E, .int .i64 A, .int .i64 N] rfl rfl HZ5.out (show 0 + 3 ≤ 3 by omega) rfl size70 (one3 E A N) ?_
          refine hK.out _ _ ?_ (fun hHeld => ?_)
          · exact ⟨(World.cell?_of_block (Go.NR.setRow_else _ z2 _ s5 HNEs5z2.out)).trans U0.out, (World.cell?_of_block (Go.NR.setRow_else _ z2 _ s5 HNEs5z2.out)).trans U1.out, (World.cell?_of_block (Go.NR.setRow_else _ z2 _ s5 HNEs5z2.out)).trans U2.out, (World.cell?_of_block (Go.NR.setRow_else _ z2 _ s6 HNEs6z2.out)).trans U3.out, (World.cell?_of_block (Go.NR.setRow_else _ z2 _ s6 HNEs6z2.out)).trans U4.out, (World.cell?_of_block (Go.NR.setRow_else _ z2 _ s6 HNEs6z2.out)).trans U5.out⟩
          clear hK K
          try simp only [Act.put, List.setIfInBounds_toArray, List.set_cons_zero, List.set_cons_succ]
          refine wpAnyH_ready (rs := [3]) (by kernel_rfl) (by simp) ?_
          refine AllReadyH.cons (o := { dst := none, op := Op.store 48 (Operand.tmp 3) (Operand.tmp 38), type := 0, pos := "super.go:88", after := #[{ on := 1, ground := Ground.data }, { on := 2, ground := Ground.chain }, { on := 0, ground := Ground.phase }, { on := 1, ground := Ground.phase }, { on := 2, ground := Ground.phase }], guard := none }) rfl (fun K hK => ?_) AllReadyH.nil
          refine oper_store_at _ 48 (.tmp 3) (.tmp 38) rfl z3 48 0 #[.int .u64 E, .slice X m c, .slice none 0 0] foot0 #[.int .u64 E, .slice X m c, .slice none 0 0] rfl rfl HZ6b.out (show 0 + 3 ≤ 3 by omega) rfl size48 (oneS E X m c) ?_
          refine hK.out _ _ ?_ (fun hHeld => ?_)
          · exact ⟨(World.cell?_of_block ((Go.NR.setRow_else _ z3 _ s5 HNEs5z3.out).trans (Go.NR.setRow_else _ z2 _ s5 HNEs5z2.out))).trans U0.out, (World.cell?_of_block ((Go.NR.setRow_else _ z3 _ s5 HNEs5z3.out).trans (Go.NR.setRow_else _ z2 _ s5 HNEs5z2.out))).trans U1.out, (World.cell?_of_block ((Go.NR.setRow_else _ z3 _ s5 HNEs5z3.out).trans (Go.NR.setRow_else _ z2 _ s5 HNEs5z2.out))).trans U2.out, (World.cell?_of_block ((Go.NR.setRow_else _ z3 _ s6 HNEs6z3.out).trans (Go.NR.setRow_else _ z2 _ s6 HNEs6z2.out))).trans U3.out, (World.cell?_of_block ((Go.NR.setRow_else _ z3 _ s6 HNEs6z3.out).trans (Go.NR.setRow_else _ z2 _ s6 HNEs6z2.out))).trans U4.out, (World.cell?_of_block ((Go.NR.setRow_else _ z3 _ s6 HNEs6z3.out).trans (Go.NR.setRow_else _ z2 _ s6 HNEs6z2.out))).trans U5.out⟩
          clear hK K
          try simp only [Act.put, List.setIfInBounds_toArray, List.set_cons_zero, List.set_cons_succ]
          refine wpAnyH_take (i := 4) (oi := { dst := some 4, op := Op.assign (Operand.const (Value.int IntKind.i64 0)), type := 51, pos := "super.go:88", after := #[{ on := 3, ground := Ground.chain }, { on := 0, ground := Ground.phase }, { on := 1, ground := Ground.phase }, { on := 2, ground := Ground.phase }, { on := 3, ground := Ground.phase }], guard := none }) (v := ?_) rfl (by kernel_rfl) (by kernel_rfl) (by kernel_rfl) (fun _ _ _ h => h) (Or.inl ⟨by rfl, ?_⟩) (by assumption) ?_
          rotate_left
          · (intro w hSw; (try dsimp only at hSw); go_simp; try with_reducible rfl)
          try simp only [Act.put, List.setIfInBounds_toArray, List.set_cons_zero, List.set_cons_succ]
          refine wpAnyH_done (by kernel_rfl) ?_ _
          refine NoPanic.normal ?_
          clear U0 U1 U2 U3 U4 U5
          go_wp2_with fail
          refine bodyPost_ret (results_cell2_tmp rfl _ _ z2 z3 70 48 #[.int .u64 E, .int .i64 A, .int .i64 N] #[.int .u64 E, .slice X m c, .slice none 0 0] _ _ rfl rfl ((Go.NR.setRow_else _ z3 _ z2 (fun q => by have := FN.out.ord; omega)).trans (setRow_heap' _ z2 _ _ 70 HZ5.out)) (setRow_heap' _ z3 _ _ 48 HZ6b.out) size70 size48 st70 st48) rfl ?_
          refine ⟨X, m, c, ?_, Below.setRow (Below.setRow FN.out.drew.be (by have := FN.out.ord; omega) _) (by have := FN.out.ord; omega) _⟩
          rw [← HY.out, if_neg (show ¬ (E, A, N).1 = 0 from HZ.out)]
          rfl
    · by_cases hlt : E < e
      · have hD : decide (E < e) = true := decide_eq_true hlt
        have hD' : decide ((E : Int) < (e : Int)) = true := decide_eq_true (by omega)
        have HLT := Lib.hid hlt
        clear hlt
        go_upto_region 6 with fail
        clear V0 V5 hD hD'
        have U0 := Lib.hid (cell_of_row w4 s8 0 _ 70 _ H8.out)
        have U1 := Lib.hid (cell_of_row w4 s8 1 _ 70 _ H8.out)
        have U2 := Lib.hid (cell_of_row w4 s8 2 _ 70 _ H8.out)
        have U3 := Lib.hid (cell_of_row w4 s9 0 _ 48 _ H9.out)
        have U4 := Lib.hid (cell_of_row w4 s9 1 _ 48 _ H9.out)
        have U5 := Lib.hid (cell_of_row w4 s9 2 _ 48 _ H9.out)
        have HZ5 : Hid (w4.drew.heap[s5]? = some (.cells #[.int .u64 E, .int .i64 A, .int .i64 N] 70 (0, 0))) := Lib.hid F4.out.h5
        have HZ6b : Hid ((w4.drew.setRow s5 #[.int .u64 e, .int .i64 a, .int .i64 n]).heap[s6]? = some (.cells #[.int .u64 E, .slice X m c, .slice none 0 0] 48 (0, 0))) := Lib.hid ((Go.NR.setRow_else _ s5 _ s6 (fun q => by have := F4.out.ord; have := HO.out; omega)).trans F4.out.h6)
        have HNEs8s5 : Hid (s8 ≠ s5) := Lib.hid (fun q => by have := F4.out.ord; have := HO.out; omega)
        have HNEs8s6 : Hid (s8 ≠ s6) := Lib.hid (fun q => by have := F4.out.ord; have := HO.out; omega)
        have HNEs9s5 : Hid (s9 ≠ s5) := Lib.hid (fun q => by have := F4.out.ord; have := HO.out; omega)
        have HNEs9s6 : Hid (s9 ≠ s6) := Lib.hid (fun q => by have := F4.out.ord; have := HO.out; omega)
        refine wp_region_noPanic ?_
        refine wp_region_held_drew (S := (fun W => W.cell? ⟨s8, 0, none⟩ = some (.int .u64 e) ∧ W.cell? ⟨s8, 1, none⟩ = some (.int .i64 a) ∧ W.cell? ⟨s8, 2, none⟩ = some (.int .i64 n) ∧ W.cell? ⟨s9, 0, none⟩ = some (.int .u64 e) ∧ W.cell? ⟨s9, 1, none⟩ = some (.slice Y m' c') ∧ W.cell? ⟨s9, 2, none⟩ = some (.slice none 0 0))) (by kernel_rfl) ?_ (fun hHeld => ?_)
        · exact ⟨U0.out, U1.out, U2.out, U3.out, U4.out, U5.out⟩
        refine wpAnyH_take (i := 0) (oi := { dst := some 26, op := Op.load 70 (Operand.tmp 8), type := 70, pos := "super.go:79", after := #[], guard := none }) (v := ?_) rfl (by kernel_rfl) (by kernel_rfl) (by kernel_rfl) (fun _ _ _ h => h) (Or.inl ⟨by rfl, ?_⟩) (by assumption) ?_
        rotate_left
        · (intro w hSw; (try dsimp only at hSw); go_simp; try with_reducible rfl)
        try simp only [Act.put, List.setIfInBounds_toArray, List.set_cons_zero, List.set_cons_succ]
        refine wpAnyH_take (i := 1) (oi := { dst := some 27, op := Op.load 48 (Operand.tmp 9), type := 48, pos := "super.go:79", after := #[{ on := 2, ground := Ground.gcOnly Departure.lateStores }], guard := none }) (v := ?_) rfl (by kernel_rfl) (by kernel_rfl) (by kernel_rfl) (fun _ _ _ h => h) (Or.inl ⟨by rfl, ?_⟩) (by assumption) ?_
        rotate_left
        · (intro w hSw; (try dsimp only at hSw); go_simp; try with_reducible rfl)
        try simp only [Act.put, List.setIfInBounds_toArray, List.set_cons_zero, List.set_cons_succ]
        refine wpAnyH_ready (rs := [2]) (by kernel_rfl) (by simp) ?_
        refine AllReadyH.cons (o := { dst := none, op := Op.store 70 (Operand.tmp 5) (Operand.tmp 26), type := 0, pos := "super.go:79", after := #[{ on := 0, ground := Ground.data }, { on := 0, ground := Ground.phase }, { on := 1, ground := Ground.textOnly Departure.lateStores }], guard := none }) rfl (fun K hK => ?_) AllReadyH.nil
        refine oper_store_at _ 70 (.tmp 5) (.tmp 26) rfl s5 70 0 #[.int .u64 e, .int .i64 a, .int .i64 n] #[.int .u64 E, .int .i64 A, .int .i64 N] #[.int .u64 e, .int .i64 a, .int .i64 n] rfl rfl HZ5.out (show 0 + 3 ≤ 3 by omega) rfl size70 (one3 e a n) ?_
        refine hK.out _ _ ?_ (fun hHeld => ?_)
        · exact ⟨(World.cell?_of_block (Go.NR.setRow_else _ s5 _ s8 HNEs8s5.out)).trans U0.out, (World.cell?_of_block (Go.NR.setRow_else _ s5 _ s8 HNEs8s5.out)).trans U1.out, (World.cell?_of_block (Go.NR.setRow_else _ s5 _ s8 HNEs8s5.out)).trans U2.out, (World.cell?_of_block (Go.NR.setRow_else _ s5 _ s9 HNEs9s5.out)).trans U3.out, (World.cell?_of_block (Go.NR.setRow_else _ s5 _ s9 HNEs9s5.out)).trans U4.out, (World.cell?_of_block (Go.NR.setRow_else _ s5 _ s9 HNEs9s5.out)).trans U5.out⟩
        clear hK K
        try simp only [Act.put, List.setIfInBounds_toArray, List.set_cons_zero, List.set_cons_succ]
        refine wpAnyH_ready (rs := [3]) (by kernel_rfl) (by simp) ?_
        refine AllReadyH.cons (o := { dst := none, op := Op.store 48 (Operand.tmp 6) (Operand.tmp 27), type := 0, pos := "super.go:79", after := #[{ on := 1, ground := Ground.data }, { on := 2, ground := Ground.chain }, { on := 0, ground := Ground.phase }, { on := 1, ground := Ground.phase }, { on := 2, ground := Ground.phase }], guard := none }) rfl (fun K hK => ?_) AllReadyH.nil
        refine oper_store_at _ 48 (.tmp 6) (.tmp 27) rfl s6 48 0 #[.int .u64 e, .slice Y m' c', .slice none 0 0] #[.int .u64 E, .slice X m c, .slice none 0 0] #[.int .u64 e, .slice Y m' c', .slice none 0 0] rfl rfl HZ6b.out (show 0 + 3 ≤ 3 by omega) rfl size48 (oneS e Y m' c') ?_
        refine hK.out _ _ ?_ (fun hHeld => ?_)
        · exact ⟨(World.cell?_of_block ((Go.NR.setRow_else _ s6 _ s8 HNEs8s6.out).trans (Go.NR.setRow_else _ s5 _ s8 HNEs8s5.out))).trans U0.out, (World.cell?_of_block ((Go.NR.setRow_else _ s6 _ s8 HNEs8s6.out).trans (Go.NR.setRow_else _ s5 _ s8 HNEs8s5.out))).trans U1.out, (World.cell?_of_block ((Go.NR.setRow_else _ s6 _ s8 HNEs8s6.out).trans (Go.NR.setRow_else _ s5 _ s8 HNEs8s5.out))).trans U2.out, (World.cell?_of_block ((Go.NR.setRow_else _ s6 _ s9 HNEs9s6.out).trans (Go.NR.setRow_else _ s5 _ s9 HNEs9s5.out))).trans U3.out, (World.cell?_of_block ((Go.NR.setRow_else _ s6 _ s9 HNEs9s6.out).trans (Go.NR.setRow_else _ s5 _ s9 HNEs9s5.out))).trans U4.out, (World.cell?_of_block ((Go.NR.setRow_else _ s6 _ s9 HNEs9s6.out).trans (Go.NR.setRow_else _ s5 _ s9 HNEs9s5.out))).trans U5.out⟩
        clear hK K
        try simp only [Act.put, List.setIfInBounds_toArray, List.set_cons_zero, List.set_cons_succ]
        refine wpAnyH_done (by kernel_rfl) ?_ _
        refine NoPanic.normal ?_
        clear U0 U1 U2 U3 U4 U5
        obtain ⟨w5, hw5⟩ : ∃ w5, ((w4.drew.setRow s5 #[.int .u64 e, .int .i64 a, .int .i64 n]).setRow s6 #[.int .u64 e, .slice Y m' c', .slice none 0 0]) = w5 := ⟨_, rfl⟩
        have FN : Hid (FS w w5 z2 z3 s5 s6 e a n Y m' c') := Lib.hid (by rw [← hw5]; exact F4.out.drew.turn e a n Y m' c')
        go_upto_region 7 with fail
        rw [hw5]
        have HX : Hid ((e, a, n) = yng (ini r i) (r i)) := Lib.hid (by
          rw [← HE.out, HR.out]
          unfold yng
          rw [if_pos (show (E, A, N).1 < (e, a, n).1 from HLT.out)])
        clear hw5 F4 HBB HE HR HLT H8 H9 HO HZ5 HZ6b
        have hi := HI.out
        have w0 : IntKind.i64.wrap ((i : Int) + 1) = (i : Int) + 1 := wrapi (by omega) (by omega)
        have hb : i < 10 := by omega
        by_cases h0 : i = 0
        · have d1 : decide ((i : Int) + 1 < 2) = true := decide_eq_true (by omega)
          have H0 := Lib.hid h0
          clear h0 hi
          go_wp2
          go_step3
          exact ⟨rfl, ⟨i + 1, z2, z3, s5, s6, e, a, n, Y, m', c', by have := H0.out; omega, FN.out, ini_next r i HI.out _ HX.out H0.out, _, _, _, _, _, _, _, _, _, _, _, _, _, _, _, _, _, _, _, _, _, _, _, _, _, _, _, _, _, _, _, _, rfl⟩, by have := HI.out; simp [intOf]; omega⟩
        · have d1 : decide ((i : Int) + 1 < 2) = false := decide_eq_false (by omega)
          obtain rfl : i = 1 := by omega
          have HY : Hid ((e, a, n) = yng (yng (0, 0, 0) (r 0)) (r 1)) := HX
          have V5 := cell_of_row w5 s5 0 _ 70 _ FN.out.h5
          simp at V5
          have HZ3 : Hid (∀ cs, (w5.setRow z2 cs).heap[z3]? = some (.cells foot0 48 (0, 0))) := Lib.hid (fun cs => (Go.NR.setRow_else _ z2 _ z3 (by have := FN.out.ord; omega)).trans FN.out.h3)
          clear w0 hi hb d1 h0 HI HX
          by_cases hz : e = 0
          · have HQ : (e, a, n) = (0, 0, 0) := by
              rw [HY.out]
              refine yng_zero _ _ ?_
              rw [← HY.out]
              exact hz
            have HYZ : Hid (yng (yng (0, 0, 0) (r 0)) (r 1) = (0, 0, 0)) := Lib.hid (by rw [← HY.out]; exact HQ)
            have HW := Lib.hid FN.out.h2
            have HBE := Lib.hid FN.out.be
            have HOR := Lib.hid FN.out.ord
            have hzi : (e : Int) = 0 := by omega
            have dz : decide (e = 0) = true := decide_eq_true hz
            rw [hzi] at V5
            clear HQ hz HY FN dz hzi
            go_wp2_with (first
              | (refine wpList_store_at _ rfl 70 (.tmp 2) (.tmp 35) rfl z2 70 0 zero3 zero3 zero3 rfl rfl HW.out (show 0 + 3 ≤ 3 by omega) rfl size70 (one3 0 0 0) ?_)
              | (refine wpList_store_at _ rfl 48 (.tmp 3) (.tmp 36) rfl z3 48 0 foot0 foot0 foot0 rfl rfl (HZ3.out _) (show 0 + 3 ≤ 3 by omega) rfl size48 foot0_one ?_))
            refine bodyPost_ret (results_cell2_tmp rfl _ _ z2 z3 70 48 zero3 foot0 _ _ rfl rfl ((Go.NR.setRow_else _ z3 _ z2 (fun q => by have := HOR.out; omega)).trans (setRow_heap' _ z2 _ _ 70 HW.out)) (setRow_heap' _ z3 _ _ 48 (HZ3.out _)) size70 size48 st70 st48) rfl ?_
            refine ⟨none, 0, 0, ?_, Below.setRow (Below.setRow HBE.out (by have := HOR.out; omega) _) (by have := HOR.out; omega) _⟩
            rw [HYZ.out]
            rfl
          · have dz : decide (e = 0) = false := decide_eq_false hz
            have dz' : ((e : Int) == 0) = false := by simp; omega
            have HZ := Lib.hid hz
            clear hz
            go_upto_region 11 with fail
            clear V5 dz dz'
            have U0 := Lib.hid (cell_of_row w5 s5 0 _ 70 _ FN.out.h5)
            have U1 := Lib.hid (cell_of_row w5 s5 1 _ 70 _ FN.out.h5)
            have U2 := Lib.hid (cell_of_row w5 s5 2 _ 70 _ FN.out.h5)
            have U3 := Lib.hid (cell_of_row w5 s6 0 _ 48 _ FN.out.h6)
            have U4 := Lib.hid (cell_of_row w5 s6 1 _ 48 _ FN.out.h6)
            have U5 := Lib.hid (cell_of_row w5 s6 2 _ 48 _ FN.out.h6)
            have HZ5 : Hid (w5.drew.heap[z2]? = some (.cells zero3 70 (0, 0))) := Lib.hid FN.out.h2
            have HZ6b : Hid ((w5.drew.setRow z2 #[.int .u64 e, .int .i64 a, .int .i64 n]).heap[z3]? = some (.cells foot0 48 (0, 0))) := Lib.hid ((Go.NR.setRow_else _ z2 _ z3 (fun q => by have := FN.out.ord; omega)).trans FN.out.h3)
            have HNEs5z2 : Hid (s5 ≠ z2) := Lib.hid (fun q => by have := FN.out.ord; omega)
            have HNEs5z3 : Hid (s5 ≠ z3) := Lib.hid (fun q => by have := FN.out.ord; omega)
            have HNEs6z2 : Hid (s6 ≠ z2) := Lib.hid (fun q => by have := FN.out.ord; omega)
            have HNEs6z3 : Hid (s6 ≠ z3) := Lib.hid (fun q => by have := FN.out.ord; omega)
            refine wp_region_noPanic ?_
            refine wp_region_held_drew (S := (fun W => W.cell? ⟨s5, 0, none⟩ = some (.int .u64 e) ∧ W.cell? ⟨s5, 1, none⟩ = some (.int .i64 a) ∧ W.cell? ⟨s5, 2, none⟩ = some (.int .i64 n) ∧ W.cell? ⟨s6, 0, none⟩ = some (.int .u64 e) ∧ W.cell? ⟨s6, 1, none⟩ = some (.slice Y m' c') ∧ W.cell? ⟨s6, 2, none⟩ = some (.slice none 0 0))) (by kernel_rfl) ?_ (fun hHeld => ?_)
            · exact ⟨U0.out, U1.out, U2.out, U3.out, U4.out, U5.out⟩
            refine wpAnyH_take (i := 0) (oi := { dst := some 37, op := Op.load 70 (Operand.tmp 5), type := 70, pos := "super.go:88", after := #[], guard := none }) (v := ?_) rfl (by kernel_rfl) (by kernel_rfl) (by kernel_rfl) (fun _ _ _ h => h) (Or.inl ⟨by rfl, ?_⟩) (by assumption) ?_
            rotate_left
            · (intro w hSw; (try dsimp only at hSw); go_simp; try with_reducible rfl)
            try simp only [Act.put, List.setIfInBounds_toArray, List.set_cons_zero, List.set_cons_succ]
            refine wpAnyH_take (i := 1) (oi := { dst := some 38, op := Op.load 48 (Operand.tmp 6), type := 48, pos := "super.go:88", after := #[{ on := 2, ground := Ground.gcOnly Departure.lateStores }], guard := none }) (v := ?_) rfl (by kernel_rfl) (by kernel_rfl) (by kernel_rfl) (fun _ _ _ h => h) (Or.inl ⟨by rfl, ?_⟩) (by assumption) ?_
            rotate_left
            · (intro w hSw; (try dsimp only at hSw); go_simp; try with_reducible rfl)
            try simp only [Act.put, List.setIfInBounds_toArray, List.set_cons_zero, List.set_cons_succ]
            refine wpAnyH_ready (rs := [2]) (by kernel_rfl) (by simp) ?_
            refine AllReadyH.cons (o := { dst := none, op := Op.store 70 (Operand.tmp 2) (Operand.tmp 37), type := 0, pos := "super.go:88", after := #[{ on := 0, ground := Ground.data }, { on := 0, ground := Ground.phase }, { on := 1, ground := Ground.textOnly Departure.lateStores }], guard := none }) rfl (fun K hK => ?_) AllReadyH.nil
            refine oper_store_at _ 70 (.tmp 2) (.tmp 37) rfl z2 70 0 #[.int .u64 e, .int .i64 a, .int .i64 n] zero3 #[.int .u64 e, .int .i64 a, .int .i64 n] rfl rfl HZ5.out (show 0 + 3 ≤ 3 by omega) rfl size70 (one3 e a n) ?_
            refine hK.out _ _ ?_ (fun hHeld => ?_)
            · exact ⟨(World.cell?_of_block (Go.NR.setRow_else _ z2 _ s5 HNEs5z2.out)).trans U0.out, (World.cell?_of_block (Go.NR.setRow_else _ z2 _ s5 HNEs5z2.out)).trans U1.out, (World.cell?_of_block (Go.NR.setRow_else _ z2 _ s5 HNEs5z2.out)).trans U2.out, (World.cell?_of_block (Go.NR.setRow_else _ z2 _ s6 HNEs6z2.out)).trans U3.out, (World.cell?_of_block (Go.NR.setRow_else _ z2 _ s6 HNEs6z2.out)).trans U4.out, (World.cell?_of_block (Go.NR.setRow_else _ z2 _ s6 HNEs6z2.out)).trans U5.out⟩
            clear hK K
            try simp only [Act.put, List.setIfInBounds_toArray, List.set_cons_zero, List.set_cons_succ]
            refine wpAnyH_ready (rs := [3]) (by kernel_rfl) (by simp) ?_
            refine AllReadyH.cons (o := { dst := none, op := Op.store 48 (Operand.tmp 3) (Operand.tmp 38), type := 0, pos := "super.go:88", after := #[{ on := 1, ground := Ground.data }, { on := 2, ground := Ground.chain }, { on := 0, ground := Ground.phase }, { on := 1, ground := Ground.phase }, { on := 2, ground := Ground.phase }], guard := none }) rfl (fun K hK => ?_) AllReadyH.nil
            refine oper_store_at _ 48 (.tmp 3) (.tmp 38) rfl z3 48 0 #[.int .u64 e, .slice Y m' c', .slice none 0 0] foot0 #[.int .u64 e, .slice Y m' c', .slice none 0 0] rfl rfl HZ6b.out (show 0 + 3 ≤ 3 by omega) rfl size48 (oneS e Y m' c') ?_
            refine hK.out _ _ ?_ (fun hHeld => ?_)
            · exact ⟨(World.cell?_of_block ((Go.NR.setRow_else _ z3 _ s5 HNEs5z3.out).trans (Go.NR.setRow_else _ z2 _ s5 HNEs5z2.out))).trans U0.out, (World.cell?_of_block ((Go.NR.setRow_else _ z3 _ s5 HNEs5z3.out).trans (Go.NR.setRow_else _ z2 _ s5 HNEs5z2.out))).trans U1.out, (World.cell?_of_block ((Go.NR.setRow_else _ z3 _ s5 HNEs5z3.out).trans (Go.NR.setRow_else _ z2 _ s5 HNEs5z2.out))).trans U2.out, (World.cell?_of_block ((Go.NR.setRow_else _ z3 _ s6 HNEs6z3.out).trans (Go.NR.setRow_else _ z2 _ s6 HNEs6z2.out))).trans U3.out, (World.cell?_of_block ((Go.NR.setRow_else _ z3 _ s6 HNEs6z3.out).trans (Go.NR.setRow_else _ z2 _ s6 HNEs6z2.out))).trans U4.out, (World.cell?_of_block ((Go.NR.setRow_else _ z3 _ s6 HNEs6z3.out).trans (Go.NR.setRow_else _ z2 _ s6 HNEs6z2.out))).trans U5.out⟩
            clear hK K
            try simp only [Act.put, List.setIfInBounds_toArray, List.set_cons_zero, List.set_cons_succ]
            refine wpAnyH_take (i := 4) (oi := { dst := some 4, op := Op.assign (Operand.const (Value.int IntKind.i64 0)), type := 51, pos := "super.go:88", after := #[{ on := 3, ground := Ground.chain }, { on := 0, ground := Ground.phase }, { on := 1, ground := Ground.phase }, { on := 2, ground := Ground.phase }, { on := 3, ground := Ground.phase }], guard := none }) (v := ?_) rfl (by kernel_rfl) (by kernel_rfl) (by kernel_rfl) (fun _ _ _ h => h) (Or.inl ⟨by rfl, ?_⟩) (by assumption) ?_
            rotate_left
            · (intro w hSw; (try dsimp only at hSw); go_simp; try with_reducible rfl)
            try simp only [Act.put, List.setIfInBounds_toArray, List.set_cons_zero, List.set_cons_succ]
            refine wpAnyH_done (by kernel_rfl) ?_ _
            refine NoPanic.normal ?_
            clear U0 U1 U2 U3 U4 U5
            go_wp2_with fail
            refine bodyPost_ret (results_cell2_tmp rfl _ _ z2 z3 70 48 #[.int .u64 e, .int .i64 a, .int .i64 n] #[.int .u64 e, .slice Y m' c', .slice none 0 0] _ _ rfl rfl ((Go.NR.setRow_else _ z3 _ z2 (fun q => by have := FN.out.ord; omega)).trans (setRow_heap' _ z2 _ _ 70 HZ5.out)) (setRow_heap' _ z3 _ _ 48 HZ6b.out) size70 size48 st70 st48) rfl ?_
            refine ⟨Y, m', c', ?_, Below.setRow (Below.setRow FN.out.drew.be (by have := FN.out.ord; omega) _) (by have := FN.out.ord; omega) _⟩
            rw [← HY.out, if_neg (show ¬ (e, a, n).1 = 0 from HZ.out)]
            rfl
      · have hD : decide (E < e) = false := decide_eq_false hlt
        have hD' : decide ((E : Int) < (e : Int)) = false := decide_eq_false (by omega)
        have HLT := Lib.hid hlt
        clear hlt
        go_upto_region 7 with fail
        clear V0 V5 H8 H9 HO hD hD'
        have FN := F4
        have HX : Hid ((E, A, N) = yng (ini r i) (r i)) := Lib.hid (by
          rw [← HE.out, HR.out]
          unfold yng
          rw [if_neg (show ¬ (E, A, N).1 < (e, a, n).1 from HLT.out)])
        clear F4 HBB HE HR HLT
        have hi := HI.out
        have w0 : IntKind.i64.wrap ((i : Int) + 1) = (i : Int) + 1 := wrapi (by omega) (by omega)
        have hb : i < 10 := by omega
        by_cases h0 : i = 0
        · have d1 : decide ((i : Int) + 1 < 2) = true := decide_eq_true (by omega)
          have H0 := Lib.hid h0
          clear h0 hi
          go_wp2
          go_step3
          exact ⟨rfl, ⟨i + 1, z2, z3, s5, s6, E, A, N, X, m, c, by have := H0.out; omega, FN.out, ini_next r i HI.out _ HX.out H0.out, _, _, _, _, _, _, _, _, _, _, _, _, _, _, _, _, _, _, _, _, _, _, _, _, _, _, _, _, _, _, _, _, rfl⟩, by have := HI.out; simp [intOf]; omega⟩
        · have d1 : decide ((i : Int) + 1 < 2) = false := decide_eq_false (by omega)
          obtain rfl : i = 1 := by omega
          have HY : Hid ((E, A, N) = yng (yng (0, 0, 0) (r 0)) (r 1)) := HX
          have V5 := cell_of_row w4 s5 0 _ 70 _ FN.out.h5
          simp at V5
          have HZ3 : Hid (∀ cs, (w4.setRow z2 cs).heap[z3]? = some (.cells foot0 48 (0, 0))) := Lib.hid (fun cs => (Go.NR.setRow_else _ z2 _ z3 (by have := FN.out.ord; omega)).trans FN.out.h3)
          clear w0 hi hb d1 h0 HI HX
          by_cases hz : E = 0
          · have HQ : (E, A, N) = (0, 0, 0) := by
              rw [HY.out]
              refine yng_zero _ _ ?_
              rw [← HY.out]
              exact hz
            have HYZ : Hid (yng (yng (0, 0, 0) (r 0)) (r 1) = (0, 0, 0)) := Lib.hid (by rw [← HY.out]; exact HQ)
            have HW := Lib.hid FN.out.h2
            have HBE := Lib.hid FN.out.be
            have HOR := Lib.hid FN.out.ord
            have hzi : (E : Int) = 0 := by omega
            have dz : decide (E = 0) = true := decide_eq_true hz
            rw [hzi] at V5
            clear HQ hz HY FN dz hzi
            go_wp2_with (first
              | (refine wpList_store_at _ rfl 70 (.tmp 2) (.tmp 35) rfl z2 70 0 zero3 zero3 zero3 rfl rfl HW.out (show 0 + 3 ≤ 3 by omega) rfl size70 (one3 0 0 0) ?_)
              | (refine wpList_store_at _ rfl 48 (.tmp 3) (.tmp 36) rfl z3 48 0 foot0 foot0 foot0 rfl rfl (HZ3.out _) (show 0 + 3 ≤ 3 by omega) rfl size48 foot0_one ?_))
            refine bodyPost_ret (results_cell2_tmp rfl _ _ z2 z3 70 48 zero3 foot0 _ _ rfl rfl ((Go.NR.setRow_else _ z3 _ z2 (fun q => by have := HOR.out; omega)).trans (setRow_heap' _ z2 _ _ 70 HW.out)) (setRow_heap' _ z3 _ _ 48 (HZ3.out _)) size70 size48 st70 st48) rfl ?_
            refine ⟨none, 0, 0, ?_, Below.setRow (Below.setRow HBE.out (by have := HOR.out; omega) _) (by have := HOR.out; omega) _⟩
            rw [HYZ.out]
            rfl
          · have dz : decide (E = 0) = false := decide_eq_false hz
            have dz' : ((E : Int) == 0) = false := by simp; omega
            have HZ := Lib.hid hz
            clear hz
            go_upto_region 11 with fail
            clear V5 dz dz'
            have U0 := Lib.hid (cell_of_row w4 s5 0 _ 70 _ FN.out.h5)
            have U1 := Lib.hid (cell_of_row w4 s5 1 _ 70 _ FN.out.h5)
            have U2 := Lib.hid (cell_of_row w4 s5 2 _ 70 _ FN.out.h5)
            have U3 := Lib.hid (cell_of_row w4 s6 0 _ 48 _ FN.out.h6)
            have U4 := Lib.hid (cell_of_row w4 s6 1 _ 48 _ FN.out.h6)
            have U5 := Lib.hid (cell_of_row w4 s6 2 _ 48 _ FN.out.h6)
            have HZ5 : Hid (w4.drew.heap[z2]? = some (.cells zero3 70 (0, 0))) := Lib.hid FN.out.h2
            have HZ6b : Hid ((w4.drew.setRow z2 #[.int .u64 E, .int .i64 A, .int .i64 N]).heap[z3]? = some (.cells foot0 48 (0, 0))) := Lib.hid ((Go.NR.setRow_else _ z2 _ z3 (fun q => by have := FN.out.ord; omega)).trans FN.out.h3)
            have HNEs5z2 : Hid (s5 ≠ z2) := Lib.hid (fun q => by have := FN.out.ord; omega)
            have HNEs5z3 : Hid (s5 ≠ z3) := Lib.hid (fun q => by have := FN.out.ord; omega)
            have HNEs6z2 : Hid (s6 ≠ z2) := Lib.hid (fun q => by have := FN.out.ord; omega)
            have HNEs6z3 : Hid (s6 ≠ z3) := Lib.hid (fun q => by have := FN.out.ord; omega)
            refine wp_region_noPanic ?_
            refine wp_region_held_drew (S := (fun W => W.cell? ⟨s5, 0, none⟩ = some (.int .u64 E) ∧ W.cell? ⟨s5, 1, none⟩ = some (.int .i64 A) ∧ W.cell? ⟨s5, 2, none⟩ = some (.int .i64 N) ∧ W.cell? ⟨s6, 0, none⟩ = some (.int .u64 E) ∧ W.cell? ⟨s6, 1, none⟩ = some (.slice X m c) ∧ W.cell? ⟨s6, 2, none⟩ = some (.slice none 0 0))) (by kernel_rfl) ?_ (fun hHeld => ?_)
            · exact ⟨U0.out, U1.out, U2.out, U3.out, U4.out, U5.out⟩
            refine wpAnyH_take (i := 0) (oi := { dst := some 37, op := Op.load 70 (Operand.tmp 5), type := 70, pos := "super.go:88", after := #[], guard := none }) (v := ?_) rfl (by kernel_rfl) (by kernel_rfl) (by kernel_rfl) (fun _ _ _ h => h) (Or.inl ⟨by rfl, ?_⟩) (by assumption) ?_
            rotate_left
            · (intro w hSw; (try dsimp only at hSw); go_simp; try with_reducible rfl)
            try simp only [Act.put, List.setIfInBounds_toArray, List.set_cons_zero, List.set_cons_succ]
            refine wpAnyH_take (i := 1) (oi := { dst := some 38, op := Op.load 48 (Operand.tmp 6), type := 48, pos := "super.go:88", after := #[{ on := 2, ground := Ground.gcOnly Departure.lateStores }], guard := none }) (v := ?_) rfl (by kernel_rfl) (by kernel_rfl) (by kernel_rfl) (fun _ _ _ h => h) (Or.inl ⟨by rfl, ?_⟩) (by assumption) ?_
            rotate_left
            · (intro w hSw; (try dsimp only at hSw); go_simp; try with_reducible rfl)
            try simp only [Act.put, List.setIfInBounds_toArray, List.set_cons_zero, List.set_cons_succ]
            refine wpAnyH_ready (rs := [2]) (by kernel_rfl) (by simp) ?_
            refine AllReadyH.cons (o := { dst := none, op := Op.store 70 (Operand.tmp 2) (Operand.tmp 37), type := 0, pos := "super.go:88", after := #[{ on := 0, ground := Ground.data }, { on := 0, ground := Ground.phase }, { on := 1, ground := Ground.textOnly Departure.lateStores }], guard := none }) rfl (fun K hK => ?_) AllReadyH.nil
            refine oper_store_at _ 70 (.tmp 2) (.tmp 37) rfl z2 70 0 #[.int .u64 E, .int .i64 A, .int .i64 N] zero3 #[.int .u64 E, .int .i64 A, .int .i64 N] rfl rfl HZ5.out (show 0 + 3 ≤ 3 by omega) rfl size70 (one3 E A N) ?_
            refine hK.out _ _ ?_ (fun hHeld => ?_)
            · exact ⟨(World.cell?_of_block (Go.NR.setRow_else _ z2 _ s5 HNEs5z2.out)).trans U0.out, (World.cell?_of_block (Go.NR.setRow_else _ z2 _ s5 HNEs5z2.out)).trans U1.out, (World.cell?_of_block (Go.NR.setRow_else _ z2 _ s5 HNEs5z2.out)).trans U2.out, (World.cell?_of_block (Go.NR.setRow_else _ z2 _ s6 HNEs6z2.out)).trans U3.out, (World.cell?_of_block (Go.NR.setRow_else _ z2 _ s6 HNEs6z2.out)).trans U4.out, (World.cell?_of_block (Go.NR.setRow_else _ z2 _ s6 HNEs6z2.out)).trans U5.out⟩
            clear hK K
            try simp only [Act.put, List.setIfInBounds_toArray, List.set_cons_zero, List.set_cons_succ]
            refine wpAnyH_ready (rs := [3]) (by kernel_rfl) (by simp) ?_
            refine AllReadyH.cons (o := { dst := none, op := Op.store 48 (Operand.tmp 3) (Operand.tmp 38), type := 0, pos := "super.go:88", after := #[{ on := 1, ground := Ground.data }, { on := 2, ground := Ground.chain }, { on := 0, ground := Ground.phase }, { on := 1, ground := Ground.phase }, { on := 2, ground := Ground.phase }], guard := none }) rfl (fun K hK => ?_) AllReadyH.nil
            refine oper_store_at _ 48 (.tmp 3) (.tmp 38) rfl z3 48 0 #[.int .u64 E, .slice X m c, .slice none 0 0] foot0 #[.int .u64 E, .slice X m c, .slice none 0 0] rfl rfl HZ6b.out (show 0 + 3 ≤ 3 by omega) rfl size48 (oneS E X m c) ?_
            refine hK.out _ _ ?_ (fun hHeld => ?_)
            · exact ⟨(World.cell?_of_block ((Go.NR.setRow_else _ z3 _ s5 HNEs5z3.out).trans (Go.NR.setRow_else _ z2 _ s5 HNEs5z2.out))).trans U0.out, (World.cell?_of_block ((Go.NR.setRow_else _ z3 _ s5 HNEs5z3.out).trans (Go.NR.setRow_else _ z2 _ s5 HNEs5z2.out))).trans U1.out, (World.cell?_of_block ((Go.NR.setRow_else _ z3 _ s5 HNEs5z3.out).trans (Go.NR.setRow_else _ z2 _ s5 HNEs5z2.out))).trans U2.out, (World.cell?_of_block ((Go.NR.setRow_else _ z3 _ s6 HNEs6z3.out).trans (Go.NR.setRow_else _ z2 _ s6 HNEs6z2.out))).trans U3.out, (World.cell?_of_block ((Go.NR.setRow_else _ z3 _ s6 HNEs6z3.out).trans (Go.NR.setRow_else _ z2 _ s6 HNEs6z2.out))).trans U4.out, (World.cell?_of_block ((Go.NR.setRow_else _ z3 _ s6 HNEs6z3.out).trans (Go.NR.setRow_else _ z2 _ s6 HNEs6z2.out))).trans U5.out⟩
            clear hK K
            try simp only [Act.put, List.setIfInBounds_toArray, List.set_cons_zero, List.set_cons_succ]
            refine wpAnyH_take (i := 4) (oi := { dst := some 4, op := Op.assign (Operand.const (Value.int IntKind.i64 0)), type := 51, pos := "super.go:88", after := #[{ on := 3, ground := Ground.chain }, { on := 0, ground := Ground.phase }, { on := 1, ground := Ground.phase }, { on := 2, ground := Ground.phase }, { on := 3, ground := Ground.phase }], guard := none }) (v := ?_) rfl (by kernel_rfl) (by kernel_rfl) (by kernel_rfl) (fun _ _ _ h => h) (Or.inl ⟨by rfl, ?_⟩) (by assumption) ?_
            rotate_left
            · (intro w hSw; (try dsimp only at hSw); go_simp; try with_reducible rfl)
            try simp only [Act.put, List.setIfInBounds_toArray, List.set_cons_zero, List.set_cons_succ]
            refine wpAnyH_done (by kernel_rfl) ?_ _
            refine NoPanic.normal ?_
            clear U0 U1 U2 U3 U4 U5
            go_wp2_with fail
            refine bodyPost_ret (results_cell2_tmp rfl _ _ z2 z3 70 48 #[.int .u64 E, .int .i64 A, .int .i64 N] #[.int .u64 E, .slice X m c, .slice none 0 0] _ _ rfl rfl ((Go.NR.setRow_else _ z3 _ z2 (fun q => by have := FN.out.ord; omega)).trans (setRow_heap' _ z2 _ _ 70 HZ5.out)) (setRow_heap' _ z3 _ _ 48 HZ6b.out) size70 size48 st70 st48) rfl ?_
            refine ⟨X, m, c, ?_, Below.setRow (Below.setRow FN.out.drew.be (by have := FN.out.ord; omega) _) (by have := FN.out.ord; omega) _⟩
            rw [← HY.out, if_neg (show ¬ (E, A, N).1 = 0 from HZ.out)]
            rfl
end Go.Proofs.Ytfblhcphbcghpaa
end

section
namespace Go.Proofs.Ytfblhcphbcghpaa
open Go.RowKit
set_option maxRecDepth 100000
theorem cat_one (T : List UInt8) (a : Nat) : cat T a 1 = blk T a := by
  unfold cat blk
  rw [Nat.mul_comm a 64, Nat.mul_one]
def z64 : List UInt8 := List.replicate 64 0
theorem z64_bad : num4 z64 ≠ sumS (z64.drop 4) := by decide +kernel
def three : List (List UInt8 × Int) := [([110], 1), ([115], 2), ([112], 3)]
theorem three_chk : chk three = 0 := by decide +kernel
end Go.Proofs.Ytfblhcphbcghpaa
end
