/-
  Texts of a proof over the translated program: proved evaluators and walks, part 17 of 17.
-/
import Derived.Test.YtcmjccjbgidinaaPart16
import Derived.Below
import Derived.Deep.CutBlock
import Derived.Deep.Grids
import Derived.Deep.RegionHeld3
import Derived.Deep.RegionLaw
import Derived.Deep.RegionLawGrows
import Derived.Deep.RegionWith
import Derived.Deep.Slices
import Derived.Handy
import Derived.IntWalk
import Derived.Laws.CopyOwn
import Derived.Laws.MakeOwn
import Derived.Lib.Hide
import Derived.Lib.SlBytesRow
import Derived.Lib.SmallJoins
import Derived.LoopTactic
import Derived.OpenShut
import Derived.Outline
import Derived.OwnWalk
import Derived.ProofKit
import Derived.Scope
import Derived.ScopeJumps
import Derived.Test.YtcmjccjbgidinaaProg
import Derived.WalkKit
import Derived.WalkSpells
import Derived.Great.BuildSlice
import Derived.KernelRfl
import Derived.Laws.BytesArg
import Derived.Laws.IdiomStrings
import Derived.Orders
import Derived.Test.YtcmjccjbgidinaaChecked
set_option linter.unusedVariables false
set_option linter.unusedSimpArgs false
set_option linter.unusedSectionVars false
set_option linter.unnecessarySimpa false
section
namespace Go.Proofs
open Go.RowKit Go.ChangeShapes Go.WideShapes Joins
set_option maxRecDepth 100000
def IsActs (w : World) (a : Option Addr) (len cap : Nat) : Prop :=
  (a = none ∧ len = 0 ∧ cap = 0) ∨ ∃ x, a = some x ∧ len ≤ cap ∧ cap ≤ maxLen ∧ ∀ i, i < len → ActAt w (x.add (i * 4))
theorem data_at {w : World} {a : Option Addr} {len cap : Nat} {zs : List Int} (h : IsRow .u8 w a len cap zs) : ∃ bb : List UInt8, bb.length = len ∧ len ≤ 9223372036854775807 ∧ (0 < len → ∃ X, a = some X ∧ ∀ j u, (bb.map u8v)[j]? = some u → w.cell? (X.add j) = some u) := by
  have hm : len ≤ 9223372036854775807 := by
    rcases h with ⟨_, rfl, _⟩ | ⟨x, _, h1, h2, _⟩
    · omega
    · unfold maxLen at h2; omega
  obtain ⟨l8, h8⟩ := h.u8
  refine ⟨(List.range len).map l8, by simp, hm, fun h0 => ?_⟩
  obtain ⟨X, rfl, _⟩ := h8 0 h0
  refine ⟨X, rfl, fun j u hu => ?_⟩
  rw [List.getElem?_map, List.getElem?_map] at hu
  by_cases hj : j < len
  · rw [List.getElem?_range hj] at hu
    obtain ⟨y, hy, hc⟩ := h8 j hj
    obtain rfl : X = y := Option.some.inj hy
    simp at hu
    rw [hc, hu]
  · rw [List.getElem?_eq_none (by simp; omega)] at hu
    simp at hu
end Go.Proofs
end

section
namespace Go.Proofs
open Go.RowKit Go.AbsM
set_option maxRecDepth 100000
def iv (l : List UInt8) : List Int := l.map (fun x => (x.toNat : Int))
def bv (ns : List Int) : List UInt8 := ns.map (fun n => UInt8.ofNat n.toNat)
theorem iv_len (l : List UInt8) : (iv l).length = l.length := by simp [iv]
theorem bv_len (l : List Int) : (bv l).length = l.length := by simp [bv]
theorem iv_bytes (l : List UInt8) : Sp.bytes (iv l) := fun x hx => by
  obtain ⟨y, _, rfl⟩ := List.mem_map.1 hx
  have := y.toNat_lt
  omega
theorem bv_u8v {ns : List Int} (h : Sp.bytes ns) : (bv ns).map u8v = ns.map (Value.int .u8) := by
  unfold bv
  rw [List.map_map]
  refine List.map_congr_left fun n hn => ?_
  have := h n hn
  simp only [Function.comp, u8v]
  congr 1
  simp only [UInt8.toNat_ofNat']
  omega
theorem bv_iv (l : List UInt8) : bv (iv l) = l := by
  unfold bv iv
  rw [List.map_map]
  refine (List.map_congr_left fun x hx => ?_).trans (List.map_id l)
  simp
theorem iv_bv {ns : List Int} (h : Sp.bytes ns) : iv (bv ns) = ns := by
  unfold bv iv
  rw [List.map_map]
  refine (List.map_congr_left fun n hn => ?_).trans (List.map_id ns)
  have := h n hn
  simp only [Function.comp, UInt8.toNat_ofNat', id]
  omega
theorem outrow_by {w : World} {b : Nat} {ns : List Int} {cap : Nat} (h : OutRow w b 5 .u8 ns cap) (hb : Sp.bytes ns) (hn : ns.length ≤ cap) : BY w b (bv ns) cap := by
  obtain ⟨cur, h1, h2, h3, h4⟩ := h
  refine ⟨cur.drop ns.length, ?_, ?_, h3⟩
  · rw [bv_u8v hb, ← h4, List.take_append_drop]
    exact h1
  · rw [bv_len, List.length_drop]
    omega
theorem arg_bytes {w : World} {a : Option Addr} {n c : Nat} {l : List UInt8} (hl : l.length = n) (hn : n ≤ c) (hc : c ≤ maxLen) (hX : 0 < n → ∃ X, a = some X ∧ ∀ j u, (l.map u8v)[j]? = some u → w.cell? (X.add j) = some u) :
    Arg Try.prog w (.sl 5 ((iv l).map (AV.int .u8))) (.slice a n c) := by
  have e : (iv l).map (Value.int .u8) = l.map u8v := by unfold iv; rw [List.map_map]; rfl
  have h51 : 0 < Try.prog.cellsOf 5 := of_decide_eq_true (by kernel_rfl)
  have hxl : ((iv l).map (AV.int .u8)).length = n := by rw [List.length_map, iv_len, hl]
  refine Rep.sl (P := Try.prog) (e := 5) (xs := (iv l).map (AV.int .u8)) (us := (iv l).map (Value.int .u8)) hxl.symm (by rw [List.length_map, List.length_map]) (by omega) hc h51 (fun i x u hx hu => ?_) (fun u hu => ?_) fun hne => ?_
  · simp only [List.getElem?_map, Option.map_eq_some_iff] at hx hu
    obtain ⟨n, h1, rfl⟩ := hx
    obtain ⟨m, h2, rfl⟩ := hu
    rw [h1] at h2
    simp only [Option.some.injEq] at h2; subst h2
    exact .x rfl
  · obtain ⟨n, _, rfl⟩ := List.mem_map.1 hu
    kernel_rfl
  · have h0 : 0 < n := by
      rcases Nat.eq_zero_or_pos n with h | h
      · subst h
        have := List.eq_nil_of_length_eq_zero hl
        subst this
        exact absurd rfl hne
      · exact h
    obtain ⟨⟨b, o, sp⟩, rfl, hcell⟩ := hX h0
    have hs : sp = none := by
      have := hcell 0 (u8v (l[0]'(by omega))) (by simp [hl, h0])
      simpa [Addr.add] using World.cell?_spot this
    subst hs
    refine ⟨b, o, rfl, fun j cv hj => ?_⟩
    rw [flat_ints, e] at hj
    have h1 := hcell j cv hj
    have ha : Addr.add ⟨b, o, none⟩ j = ⟨b, o + j, none⟩ := by simp [Addr.add]
    rw [ha] at h1
    exact ⟨h1, block_lt_of_cell h1⟩
def wpg (l : List UInt8) : List UInt8 := bv (Sp.wrap (iv l))
def wpn (l : List UInt8) : Nat := (Sp.psz l.length).toNat
theorem wpg_len {l : List UInt8} (h : l.length ≤ 8192) : (wpg l).length = 64 * wpn l := by
  have h1 := Sp.wrap_len (b := iv l) (by rw [iv_len]; exact h)
  have h2 := Sp.psz_le (n := (l.length : Int)) (by omega) (by omega)
  rw [iv_len] at h1
  unfold wpg wpn
  rw [bv_len]
  omega
theorem wpn_pos {l : List UInt8} (h : l.length ≤ 8192) : 1 ≤ wpn l ∧ wpn l ≤ 129 ∧ (Sp.psz l.length) = wpn l := by
  have h2 := Sp.psz_le (n := (l.length : Int)) (by omega) (by omega)
  have h3 := Sp.psz_in (n := (l.length : Int)) (by omega)
  unfold wpn
  omega
def WrapP (w : World) (l : List UInt8) (e : Ending) (w' : World) : Prop := ∃ b cc cap, e = .returned (.tuple #[.slice (some ⟨b, 0, none⟩) (64 * wpn l) cc, .int .i64 0]) ∧ w.heap.size ≤ b ∧ 64 * wpn l ≤ cc ∧ cc ≤ cap ∧ BY w' b (wpg l) cap ∧ Below w.heap.size w w'
def DataIn (w : World) (a : Option Addr) (n : Nat) (l : List UInt8) : Prop := 0 < n → ∃ X, a = some X ∧ ∀ j u, (l.map u8v)[j]? = some u → w.cell? (X.add j) = some u
theorem wrap_by {f : Nat} (hf : GoodC Try.prog (Ytcmjccjbgidinaa.ctrW f)) (w : World) (a : Option Addr) (n c : Nat) (l : List UInt8) (hl : l.length = n) (hn : n ≤ c) (hc : c ≤ maxLen) (h8 : n ≤ 8192) (hX : DataIn w a n l) : Calls Try.prog f #[.slice a n c] w (WrapP w l) := by
  refine (GoodC.out hf (iv l, ()) ⟨iv_bytes l, by rw [iv_len]; omega⟩ [.slice a n c] ⟨arg_bytes hl hn hc hX, trivial⟩).mono ?_
  rintro e w' ⟨v, g', rfl, hb, hR⟩
  have ho : Ytcmjccjbgidinaa.outW (iv l, ()) = .tup [.own 5 (.int .u8) (Sp.wrap (iv l)), .c (.a (.x (.int .i64 0)))] := Ytcmjccjbgidinaa.outW_in (by rw [iv_len]; omega)
  have hR' : ResRep Try.prog (fun b => w.heap.size ≤ b) w' g' [] ((Ytcmjccjbgidinaa.outW (iv l, ())).emb []) v := hR
  rw [ho] at hR'
  obtain ⟨b, cc, cap, rfl, h1, h2, h3, h4⟩ := res_own (ns := Sp.wrap (iv l)) (by kernel_rfl) rfl hR'
  have hw : (Sp.wrap (iv l)).length = 64 * wpn l := by
    have := wpg_len (l := l) (by omega)
    rwa [wpg, bv_len] at this
  rw [hw] at h2 ⊢
  exact ⟨b, cc, cap, rfl, h1, h2, h3, outrow_by h4 (Sp.wrap_bytes (iv_bytes l)) (by omega), hb⟩
theorem Try.wrap (w : World) (a : Option Addr) (n c : Nat) (l : List UInt8) (hl : l.length = n) (hn : n ≤ c) (hc : c ≤ maxLen) (h8 : n ≤ 8192) (hX : DataIn w a n l) : Calls Try.prog 44 #[.slice a n c] w (WrapP w l) := wrap_by (f := 44) Ytcmjccjbgidinaa.good44 w a n c l hl hn hc h8 hX
theorem Try.rwrap (w : World) (a : Option Addr) (n c : Nat) (l : List UInt8) (hl : l.length = n) (hn : n ≤ c) (hc : c ≤ maxLen) (h8 : n ≤ 8192) (hX : DataIn w a n l) : Calls Try.prog 47 #[.slice a n c] w (WrapP w l) := wrap_by (f := 47) Ytcmjccjbgidinaa.good47 w a n c l hl hn hc h8 hX
theorem Try.size {l : List UInt8} (n : Nat) (hl : l.length = n) (hn : n ≤ 8192) (w : World) : Calls Try.prog 35 #[.int .i64 n] w fun e w' => e = .returned (.int .i64 (wpn l)) ∧ Below w.heap.size w w' := by
  refine (GoodC.out Ytcmjccjbgidinaa.good35 ((n : Int), ()) (show -9223372036854775808 ≤ (n : Int) ∧ (n : Int) < 9223372036854775808 from by omega) [.int .i64 n] ⟨Arg.int, trivial⟩).mono ?_
  rintro e w' ⟨v, g', rfl, hb, hR⟩
  have hR' : ResRep Try.prog (fun b => w.heap.size ≤ b) w' g' [] (.x (.int .i64 (Sp.psz n))) v := hR
  obtain rfl := res_x hR'
  have := (wpn_pos (l := l) (by omega)).2.2
  rw [hl] at this
  rw [this]
  exact ⟨rfl, hb⟩
theorem Try.known13 (w : World) : Calls Try.prog 29 #[] w fun e w' => e = .returned (.bool true) ∧ Below w.heap.size w w' := by
  refine (GoodC.out Ytcmjccjbgidinaa.good29 () trivial [] trivial).mono ?_
  rintro e w' ⟨v, g', rfl, hb, hR⟩
  have hR' : ResRep Try.prog (fun b => w.heap.size ≤ b) w' g' [] (.x (.bool true)) v := hR
  obtain rfl := res_x hR'
  exact ⟨rfl, hb⟩
def unc (l : List UInt8) : Int := if Sp.unwB (iv l) = true then 0 else 12
def unl (l : List UInt8) : List UInt8 := if Sp.unwB (iv l) = true then bv (Sp.unwD (iv l)) else []
def RdL (w : World) (c : Int) (l : List UInt8) (e : Ending) (w' : World) : Prop := ∃ v, e = .returned (.tuple #[v, .int .i64 c]) ∧ Below w.heap.size w w' ∧ ((∃ A m, v = .slice A l.length m) ∧ ∀ w2, Below w'.heap.size w' w2 → (convert 31 9 v).run Try.prog w2 = .ok (.string (strOf l)) w2)
theorem str_sl0 (w : World) (A : Option Addr) (c : Nat) : (convert 31 9 (.slice A 0 c)).run Try.prog w = .ok (.string (strOf [])) w := by
  cases A with
  | none => exact run_convert_bytes_nil (w := w) 31 5 Try.underlying31 Try.underlying5 0 c 9 Try.underlying9
  | some X => exact str_arg (l := []) (fun j u h => by simp at h) 0 c rfl
theorem un_err {w w' : World} {g' : Gh} {l : List UInt8} {v : Value} (hb : Below w.heap.size w w') (hu : ¬ Sp.unwB (iv l) = true) (hR : ResRep Try.prog (fun b => w.heap.size ≤ b) w' g' [] (Ytcmjccjbgidinaa.errU.emb []) v) : RdL w (unc l) (unl l) (.returned v) w' := by
  have hR' : ResRep Try.prog (fun b => w.heap.size ≤ b) w' g' [] (.tup [.nils, .x (.int .i64 12)]) v := hR
  obtain rfl := res_nil hR'
  unfold unc unl
  rw [if_neg hu, if_neg hu]
  exact ⟨_, rfl, hb, ⟨_, _, rfl⟩, fun w2 _ => str_sl0 w2 _ _⟩
theorem un_own {w w' : World} {g' : Gh} {l : List UInt8} {v : Value} (hb : Below w.heap.size w w') (hu : Sp.unwB (iv l) = true) (hR : ResRep Try.prog (fun b => w.heap.size ≤ b) w' g' [] ((Ytcmjccjbgidinaa.okU (iv l)).emb []) v) : RdL w (unc l) (unl l) (.returned v) w' := by
  obtain ⟨b, cc, cap, rfl, h1, h2, h3, h4⟩ := res_own (ns := Sp.unwD (iv l)) (by kernel_rfl) rfl hR
  have hy := outrow_by h4 (Sp.unwD_len (iv_bytes l) hu).2.1 (by omega)
  unfold unc unl
  rw [if_pos hu, if_pos hu]
  refine ⟨_, rfl, hb, ⟨_, _, by rw [bv_len]⟩, fun w2 hb2 => ?_⟩
  exact (hy.congr (hb2.block b hy.lt)).str _ (bv_len _) cc
theorem un_sl0 {w w' : World} {g' : Gh} {l : List UInt8} {v : Value} (hb : Below w.heap.size w w') (hu : Sp.unwB (iv l) = true) (h0 : (Sp.unwD (iv l)).length = 0) (hR : ResRep Try.prog (fun b => w.heap.size ≤ b) w' g' [] ((Ytcmjccjbgidinaa.okE (iv l)).emb []) v) : RdL w (unc l) (unl l) (.returned v) w' := by
  have e0 := List.eq_nil_of_length_eq_zero h0
  unfold Ytcmjccjbgidinaa.okE at hR
  rw [e0] at hR
  have hR' : ResRep Try.prog (fun b => w.heap.size ≤ b) w' g' [] (.tup [.sl 5 [], .x (.int .i64 0)]) v := hR
  obtain ⟨A, c, rfl⟩ := res_sl0 hR'
  unfold unc unl
  rw [if_pos hu, if_pos hu, e0]
  exact ⟨_, rfl, hb, ⟨_, _, rfl⟩, fun w2 _ => str_sl0 w2 _ _⟩
theorem Try.unwrap (w : World) (a : Option Addr) (n c : Nat) (l : List UInt8) (hl : l.length = n) (hn : n ≤ c) (hc : c ≤ maxLen) (h8 : n < 1000000) (hX : DataIn w a n l) : Calls Try.prog 45 #[.slice a n c] w (RdL w (unc l) (unl l)) := by
  refine (GoodC.out Ytcmjccjbgidinaa.good45 (iv l, ()) ⟨iv_bytes l, by rw [iv_len]; omega⟩ [.slice a n c] ⟨arg_bytes hl hn hc hX, trivial⟩).mono ?_
  rintro e w' ⟨v, g', rfl, hb, hR⟩
  have hR' : ResRep Try.prog (fun b => w.heap.size ≤ b) w' g' [] (TV.emb [] (if Sp.unwB (iv l) = true then (if (Sp.unwD (iv l)).length = 0 then Ytcmjccjbgidinaa.okE (iv l) else Ytcmjccjbgidinaa.okU (iv l)) else Ytcmjccjbgidinaa.errU)) v := hR
  by_cases hu : Sp.unwB (iv l) = true
  · rw [if_pos hu] at hR'
    by_cases h0 : (Sp.unwD (iv l)).length = 0
    · rw [if_pos h0] at hR'; exact un_sl0 hb hu h0 hR'
    · rw [if_neg h0] at hR'; exact un_own hb hu hR'
  · rw [if_neg hu] at hR'; exact un_err hb hu hR'
theorem Try.runwrap (w : World) (a : Option Addr) (n c : Nat) (l : List UInt8) (hl : l.length = n) (hn : n ≤ c) (hc : c ≤ maxLen) (h8 : n < 1000000) (hX : DataIn w a n l) : Calls Try.prog 49 #[.slice a n c] w (RdL w (unc l) (unl l)) := by
  refine (GoodC.out Ytcmjccjbgidinaa.good49 (iv l, ()) ⟨iv_bytes l, by rw [iv_len]; omega⟩ [.slice a n c] ⟨arg_bytes hl hn hc hX, trivial⟩).mono ?_
  rintro e w' ⟨v, g', rfl, hb, hR⟩
  have hR' : ResRep Try.prog (fun b => w.heap.size ≤ b) w' g' [] (TV.emb [] (if Sp.unwB (iv l) = true then Ytcmjccjbgidinaa.okU (iv l) else Ytcmjccjbgidinaa.errU)) v := hR
  by_cases hu : Sp.unwB (iv l) = true
  · rw [if_pos hu] at hR'; exact un_own hb hu hR'
  · rw [if_neg hu] at hR'; exact un_err hb hu hR'
end Go.Proofs
end

section
namespace Go.Proofs
open Go.RowKit
set_option maxRecDepth 100000
theorem Try.there_yes {w : World} {F : Nat → Prop} {d k : Nat} {L T : List UInt8} {Q : List (Nat × List UInt8)} (hd : DV w F d k L T Q) (i n : Int) (h : 1 ≤ n ∧ n ≤ k ∧ 0 ≤ i ∧ i ≤ k - n) :
    Calls Try.prog 46 #[.pointer (some ⟨d, 0, none⟩), .int .i64 i, .int .i64 n] w fun e w' => e = .returned (.bool true) ∧ w = w' := by
  obtain ⟨lb, cl, tb, ct, vw, ds, hd⟩ := hd
  have c1 := hd.c1
  have hk := hd.hk
  have h16 : 64 * k ≤ 65536 := by omega
  have hq : 64 * k / 64 = k := by omega
  have hs : IntKind.i64.wrap ((k : Int) - n) = k - n := by rw [IntKind.wrap_i64]; omega
  have p1 : decide (1 ≤ n) = true := by simp; omega
  have p2 : decide (n ≤ k) = true := by simp; omega
  have p3 : decide (0 ≤ i) = true := by simp; omega
  have p4 : decide (i ≤ k - n) = true := by simp; omega
  clear h
  go_enter Try.func46, Try.ntmps46
  go_wp2_with (go_at_call 28; refine (Try.blocks _ _ _ _ h16 _ c1).mono ?_; rintro e w' ⟨rfl, rfl⟩; rw [hq])
  go_ret
  exact ⟨rfl, rfl⟩
theorem Try.there_no {w : World} {F : Nat → Prop} {d k : Nat} {L T : List UInt8} {Q : List (Nat × List UInt8)} (hd : DV w F d k L T Q) (i n : Int) (h : ¬ (1 ≤ n ∧ n ≤ k ∧ 0 ≤ i ∧ i ≤ k - n)) :
    Calls Try.prog 46 #[.pointer (some ⟨d, 0, none⟩), .int .i64 i, .int .i64 n] w fun e w' => e = .returned (.bool false) ∧ w = w' := by
  obtain ⟨lb, cl, tb, ct, vw, ds, hd⟩ := hd
  have c1 := hd.c1
  have hk := hd.hk
  have h16 : 64 * k ≤ 65536 := by omega
  have hq : 64 * k / 64 = k := by omega
  by_cases a1 : 1 ≤ n
  · have p1 : decide (1 ≤ n) = true := by simp; omega
    by_cases a2 : n ≤ k
    · have p2 : decide (n ≤ k) = true := by simp; omega
      by_cases a3 : 0 ≤ i
      · have p3 : decide (0 ≤ i) = true := by simp; omega
        have hs : IntKind.i64.wrap ((k : Int) - n) = k - n := by rw [IntKind.wrap_i64]; omega
        have p4 : decide (i ≤ k - n) = false := by simp; omega
        clear h
        go_enter Try.func46, Try.ntmps46
        go_wp2_with (go_at_call 28; refine (Try.blocks _ _ _ _ h16 _ c1).mono ?_; rintro e w' ⟨rfl, rfl⟩; rw [hq])
        go_ret
        exact ⟨rfl, rfl⟩
      · have p3 : decide (0 ≤ i) = false := by simp; omega
        clear h
        go_enter Try.func46, Try.ntmps46
        go_wp2_with (go_at_call 28; refine (Try.blocks _ _ _ _ h16 _ c1).mono ?_; rintro e w' ⟨rfl, rfl⟩; rw [hq])
        go_ret
        exact ⟨rfl, rfl⟩
    · have p2 : decide (n ≤ k) = false := by simp; omega
      clear h
      go_enter Try.func46, Try.ntmps46
      go_wp2_with (go_at_call 28; refine (Try.blocks _ _ _ _ h16 _ c1).mono ?_; rintro e w' ⟨rfl, rfl⟩; rw [hq])
      go_ret
      exact ⟨rfl, rfl⟩
  · have p1 : decide (1 ≤ n) = false := by simp; omega
    clear h
    go_enter Try.func46, Try.ntmps46
    go_wp2_with fail
    go_ret
    exact ⟨rfl, rfl⟩
end Go.Proofs
end

section
namespace Go.Proofs
open Go.RowKit
set_option maxRecDepth 100000
theorem wp_scope_once {P : Program} {c R : Code} {a : Act} {w : World} {Q : Exit → Act → World → Prop} (l : Nat) (J : Act → World → Prop) (μ : Act → World → Nat) (hf : findLabel c l = some (Code.skip.seq R))
    (first : (∀ a w, J a w → R.wp P (Exit.jump l J Q) a w) → c.wp P (Exit.jump l J Q) a w) (pass : ∀ a w, J a w → R.wp P (Exit.jump l (fun a' w' => J a' w' ∧ μ a' w' < μ a w) Q) a w) : (Code.scope c).wp P Q a w := by
  refine wp_scope_jumps l J μ hf (first fun a' w' h => ?_) (fun a w h => wp_seq (wp_skip (pass a w h)))
  refine Code.wp_mono ?_ (pass a' w' h)
  intro e a2 w2 h2
  cases e <;> first | exact h2 | exact ⟨h2.1, h2.2.1⟩
def pgq (Q : List (Nat × List UInt8)) (at' : Nat) (p : List UInt8) (i : Nat) : List (Nat × List UInt8) := Q ++ (List.range i).map (fun j => (at' + j, (p.drop (64 * j)).take 64))
theorem pgq_succ (Q : List (Nat × List UInt8)) (at' : Nat) (p : List UInt8) (i : Nat) : pgq Q at' p (i + 1) = pgq Q at' p i ++ [(at' + i, (p.drop (64 * i)).take 64)] := by
  unfold pgq
  rw [List.range_succ, List.map_append, List.append_assoc]
  rfl
theorem pgq_len (Q : List (Nat × List UInt8)) (at' : Nat) (p : List UInt8) (i : Nat) : (pgq Q at' p i).length = Q.length + i := by simp [pgq]
theorem pgq_zero (Q : List (Nat × List UInt8)) (at' : Nat) (p : List UInt8) : pgq Q at' p 0 = Q := by simp [pgq]
structure PWR (w : World) (F : Nat → Prop) (d k at' : Nat) (L : List UInt8) (Q : List (Nat × List UInt8)) (p : List UInt8) (b cap i : Nat) (wr : World) : Prop where
  ex : ∃ F', DV wr F' d k L (dset (fun _ => true) 0 (pgq Q at' p i) L) (pgq Q at' p i) ∧ Upd w wr F F' ∧ ¬ F' b
  pg : BY wr b p cap
theorem PWR.next {w wr w1 : World} {F F' F1 : Nat → Prop} {d k at' : Nat} {L T1 : List UInt8} {Q : List (Nat × List UInt8)} {p : List UInt8} {b cap i : Nat} (hu0 : Upd w wr F F') (hb : ¬ F' b) (hp : BY wr b p cap) (hd : DV w1 F1 d k L T1 (pgq Q at' p (i + 1))) (hT : T1 = dset (fun _ => true) 0 (pgq Q at' p (i + 1)) L) (hu : Upd wr w1 F' F1) : PWR w F d k at' L Q p b cap (i + 1) w1 := by
  subst hT
  refine ⟨⟨F1, hd, hu0.compR hu, fun q => ?_⟩, hp.congr (hu.block b hp.lt hb)⟩
  rcases hu.grow b q with q | q
  · exact hb q
  · have := hp.lt; omega
def PgWrote (w : World) (F : Nat → Prop) (d k at' : Nat) (L : List UInt8) (Q : List (Nat × List UInt8)) (l : List UInt8) (e : Ending) (w' : World) : Prop :=
  e = .returned (.int .i64 0) ∧ ∃ F', DV w' F' d k L (dset (fun _ => true) 0 (pgq Q at' (wpg l) (wpn l)) L) (pgq Q at' (wpg l) (wpn l)) ∧ Upd w w' F F'
set_option maxHeartbeats 4000000 in
theorem Try.pwrite {w : World} {F : Nat → Prop} {d k : Nat} {L : List UInt8} {Q : List (Nat × List UInt8)} (hd : DV w F d k L (dset (fun _ => true) 0 Q L) Q) (hk : k ≤ 1024) (hQ : Q.length ≤ 10000) (at' : Nat) (a : Option Addr) (n c : Nat) (l : List UInt8) (hl : l.length = n) (hn : n ≤ c) (hc : c ≤ maxLen) (h8 : n ≤ 8192) (hX : DataIn w a n l)
    (hfit : at' + wpn l ≤ k) : Calls Try.prog 30 #[.pointer (some ⟨d, 0, none⟩), .int .i64 at', .slice a n c] w (PgWrote w F d k at' L Q l) := by
  have HD := Lib.hid hd
  have HX := Lib.hid hX
  have HL := Lib.hid hl
  have hw := wpn_pos (l := l) (by omega)
  have hwl := wpg_len (l := l) (by omega)
  have hw1 := hw.1
  have hw2 := hw.2.1
  have HWL := Lib.hid hwl
  clear hd hX hl hw hwl
  go_enter Try.func30, Try.ntmps30
  go_wp2
  refine wp_scope_once 0 (fun a' wr => ∃ (i b cc cap : Nat), i ≤ wpn l ∧ 64 * wpn l ≤ cc ∧ cc ≤ cap ∧ PWR w F d k at' L Q (wpg l) b cap i wr ∧ ∃ u11 u12 u13 u14 u15 u16 u17 u18 u19 u20 u21 u22 u23 u24 u25 u26 u27 u28 u29 u30 u31 u32 u33 u34 u35 u36 u37 u38 u39 u40 u41 u42 u43 u44 u45 u46 u47 : Value, a' = { tmps := #[.pointer (some ⟨d, 0, none⟩), .int .i64 at', .slice a n c, undef, undef, undef, .int .i64 0, .slice (some ⟨b, 0, none⟩) (64 * wpn l) cc, .int .i64 0, .int .i64 (wpn l), .int .i64 i, u11, u12, u13, u14, u15, u16, u17, u18, u19, u20, u21, u22, u23, u24, u25, u26, u27, u28, u29, u30, u31, u32, u33, u34, u35, u36, u37, u38, u39, u40, u41, u42, u43, u44, u45, u46, u47], defers := [] }) (fun a' _ => wpn l - (intOf (a'.tmps.getD 10 undef)).toNat) rfl ?_ ?_
  · intro hL
    go_wp2_with fail
    refine (Try.wrap w a n c l HL.out hn hc h8 HX.out).mono ?_
    rintro e w1 ⟨b, cc, cap, rfl, z1, z2, z3, z4, z5⟩
    have hq : (64 * wpn l) / 64 = wpn l := by omega
    have hd1 : DV w1 F d k L (dset (fun _ => true) 0 Q L) Q := (HD.out).stay (Chg.below z5 (fun _ => False)) (fun _ _ => id)
    have H1 := Lib.hid hd1
    have hp : PWR w F d k at' L Q (wpg l) b cap 0 w1 := ⟨⟨F, by rw [pgq_zero]; exact hd1, ⟨z5.os, z5.tape, z5.output, z5.size, fun b h _ => z5.block b h, fun _ h => .inl h⟩, fun q => by have := (HD.out).lt _ q; omega⟩, z4⟩
    have HP := Lib.hid hp
    clear z1 z4 z5 hd1 hp
    go_wp2_with fail
    refine (Try.there_yes (H1.out) at' (wpn l) (by omega)).mono ?_
    rintro e w2 ⟨rfl, rfl⟩
    go_wp2_with (refine wp_label ?_; rename_i Q0 K0 hK; refine hK _ _ (hL _ _ ?_); exact ⟨0, b, cc, cap, Nat.zero_le _, z2, z3, HP.out, _, _, _, _, _, _, _, _, _, _, _, _, _, _, _, _, _, _, _, _, _, _, _, _, _, _, _, _, _, _, _, _, _, _, _, _, _, rfl⟩)
  · rintro a' wr ⟨i, b, cc, cap, hi, h2, h3, hp, u11, u12, u13, u14, u15, u16, u17, u18, u19, u20, u21, u22, u23, u24, u25, u26, u27, u28, u29, u30, u31, u32, u33, u34, u35, u36, u37, u38, u39, u40, u41, u42, u43, u44, u45, u46, u47, rfl⟩
    by_cases hlt : i < wpn l
    · have hD : ((i : Int) == wpn l) = false := by simp; omega
      have hD2 : decide ((i : Int) = wpn l) = false := by simp; omega
      have hw1' : IntKind.i64.wrap ((i : Int) * 64) = ((64 * i : Nat) : Int) := by rw [IntKind.wrap_i64]; omega
      have hw2' : IntKind.i64.wrap (((i : Int) + 1) * 64) = ((64 * i + 64 : Nat) : Int) := by rw [IntKind.wrap_i64]; omega
      have HP := Lib.hid hp
      clear hp
      go_wp2_with fail
      obtain ⟨F', e1, e2, e3⟩ := (HP.out).ex
      have e4 := (HP.out).pg
      obtain ⟨lb, cl, tb, ct, vw, ds, hdw⟩ := e1
      have hbl : (((wpg l).drop (64 * i)).take 64).length = 64 := by rw [List.length_take, List.length_drop, HWL.out]; omega
      have hidx : ((at' : Int) + (i : Int)) = ((at' + i : Nat) : Int) := rfl
      rw [hidx]
      refine (Try.dwrite wr F' d k lb cl tb ct vw ds L _ _ hdw (at' + i) (by omega) ⟨b, 64 * i, none⟩ (cc - 64 * i) _ hbl (e4.win (64 * i) 64 (by rw [HWL.out]; omega)) e3 (by rw [pgq_len]; omega)).mono ?_
      rintro e w1 ⟨rfl, F1, q1, q2⟩
      rw [← pgq_succ] at q1
      have HN := Lib.hid (PWR.next e2 e3 e4 q1 (by rw [pgq_succ, dset_snoc, if_pos rfl]; simp only [hbl, Nat.mul_comm]) q2)
      clear e2 e3 e4 q1 q2 hdw hbl hidx HP
      go_wp2
      go_step3
      exact ⟨rfl, ⟨i + 1, b, cc, cap, hlt, h2, h3, HN.out, _, _, _, _, _, _, _, _, _, _, _, _, _, _, _, _, _, _, _, _, _, _, _, _, _, _, _, _, _, _, _, _, _, _, _, _, _, rfl⟩, by simp [intOf]; omega⟩
    · obtain rfl : i = wpn l := by omega
      have HE := Lib.hid hp
      clear hp
      go_wp2_with fail
      simp only [Exit.jump]
      go_ret
      obtain ⟨F', e1, e2, _⟩ := (HE.out).ex
      exact ⟨rfl, F', e1, e2⟩
end Go.Proofs
end

section
namespace Go.Proofs
open Go.RowKit
set_option maxRecDepth 100000
theorem Try.pwrite_bad {w : World} {F : Nat → Prop} {d k : Nat} {L T : List UInt8} {Q : List (Nat × List UInt8)} (hd : DV w F d k L T Q) (i : Int) (a : Option Addr) (n c : Nat) (l : List UInt8) (hl : l.length = n) (hn : n ≤ c) (hc : c ≤ maxLen) (h8 : n ≤ 8192) (hX : DataIn w a n l)
    (hfit : ¬ (0 ≤ i ∧ i + wpn l ≤ k)) : Calls Try.prog 30 #[.pointer (some ⟨d, 0, none⟩), .int .i64 i, .slice a n c] w fun e w' => e = .returned (.int .i64 9) ∧ Below w.heap.size w w' := by
  have HD := Lib.hid hd
  have HX := Lib.hid hX
  have HL := Lib.hid hl
  have HF := Lib.hid hfit
  have hw := wpn_pos (l := l) (by omega)
  have hw1 := hw.1
  have hw2 := hw.2.1
  clear hd hX hl hw hfit
  go_enter Try.func30, Try.ntmps30
  go_wp2
  refine wp_scope_once 0 (fun a' wr => False) (fun a' _ => 0) rfl ?_ (fun _ _ h => h.elim)
  intro hL
  clear hL
  go_wp2_with fail
  refine (Try.wrap w a n c l HL.out hn hc h8 HX.out).mono ?_
  rintro e w1 ⟨b, cc, cap, rfl, z1, z2, z3, z4, z5⟩
  have hq : (64 * wpn l) / 64 = wpn l := by omega
  have H1 := Lib.hid ((HD.out).stay (Chg.below z5 (fun _ => False)) (fun _ _ => id))
  have HB := Lib.hid z5
  clear z1 z4 z5
  go_wp2_with fail
  refine (Try.there_no (H1.out) i (wpn l) (fun q => HF.out ⟨q.2.2.1, by omega⟩)).mono ?_
  rintro e w2 ⟨rfl, rfl⟩
  go_wp2_with fail
  simp only [Exit.jump]
  go_ret
  exact ⟨rfl, HB.out⟩
structure PWS (w : World) (F : Nat → Prop) (m k at' : Nat) (D : List UInt8) (Q : List (Nat × List UInt8)) (p : List UInt8) (b cap i : Nat) (wr : World) : Prop where
  ex : ∃ F', RV wr F' m k D (pgq Q at' p i) ∧ Upd w wr F F' ∧ ¬ F' b
  pg : BY wr b p cap
theorem PWS.next {w wr w1 : World} {F F' F1 : Nat → Prop} {m k at' : Nat} {D : List UInt8} {Q : List (Nat × List UInt8)} {p : List UInt8} {b cap i : Nat} (hu0 : Upd w wr F F') (hb : ¬ F' b) (hp : BY wr b p cap) (hd : RV w1 F1 m k D (pgq Q at' p (i + 1))) (hu : Upd wr w1 F' F1) : PWS w F m k at' D Q p b cap (i + 1) w1 := by
  refine ⟨⟨F1, hd, hu0.compR hu, fun q => ?_⟩, hp.congr (hu.block b hp.lt hb)⟩
  rcases hu.grow b q with q | q
  · exact hb q
  · have := hp.lt; omega
def RPgWrote (w : World) (F : Nat → Prop) (m k at' : Nat) (D : List UInt8) (Q : List (Nat × List UInt8)) (l : List UInt8) (e : Ending) (w' : World) : Prop :=
  e = .returned (.int .i64 0) ∧ ∃ F', RV w' F' m k D (pgq Q at' (wpg l) (wpn l)) ∧ Upd w w' F F'
set_option maxHeartbeats 4000000 in
theorem Try.rpwrite {w : World} {F : Nat → Prop} {m k : Nat} {D : List UInt8} {Q : List (Nat × List UInt8)} (hd : RV w F m k D Q) (hk : k ≤ 1024) (hQ : Q.length ≤ 10000) (at' : Nat) (a : Option Addr) (n c : Nat) (l : List UInt8) (hl : l.length = n) (hn : n ≤ c) (hc : c ≤ maxLen) (h8 : n ≤ 8192) (hX : DataIn w a n l)
    (hfit : at' + wpn l ≤ k) : Calls Try.prog 31 #[.pointer (some ⟨m, 0, none⟩), .int .i64 at', .slice a n c] w (RPgWrote w F m k at' D Q l) := by
  have HD := Lib.hid hd
  have HX := Lib.hid hX
  have HL := Lib.hid hl
  have hw := wpn_pos (l := l) (by omega)
  have hwl := wpg_len (l := l) (by omega)
  have hw1 := hw.1
  have hw2 := hw.2.1
  have HWL := Lib.hid hwl
  have hq : (64 * wpn l) / 64 = wpn l := by omega
  have hqk : 64 * k / 64 = k := by omega
  have h16 : 64 * k ≤ 65536 := by omega
  have p1 : decide ((at' : Int) < 0) = false := by simp
  have p2 : decide ((k : Int) < at') = false := by simp; omega
  have p2' : decide (k < at') = false := by simp; omega
  have p3 : decide ((k : Int) - at' < wpn l) = false := by simp; omega
  have p4 : IntKind.i64.wrap ((k : Int) - at') = k - at' := by rw [IntKind.wrap_i64]; omega
  clear hd hX hl hw hwl
  go_enter Try.func31, Try.ntmps31
  go_wp2_with fail
  refine (Try.rwrap w a n c l HL.out hn hc h8 HX.out).mono ?_
  rintro e w1 ⟨b, cc, cap, rfl, z1, z2, z3, z4, z5⟩
  have hd1 : RV w1 F m k D Q := (HD.out).stay (Chg.below z5 (fun _ => False)) (fun _ _ => id)
  have hp : PWS w F m k at' D Q (wpg l) b cap 0 w1 := ⟨⟨F, by rw [pgq_zero]; exact hd1, ⟨z5.os, z5.tape, z5.output, z5.size, fun b h _ => z5.block b h, fun _ h => .inl h⟩, fun q => by have := (HD.out).lt _ q; omega⟩, z4⟩
  have HP := Lib.hid hp
  obtain ⟨db, dc, A, wc, es, hrw⟩ := hd1
  have c0 := hrw.c0
  clear z1 z4 z5 hp hrw
  go_wp2_with (go_at_call 40; refine (Try.rblocks _ _ _ _ h16 _ c0).mono ?_; rintro e w' ⟨rfl, rfl⟩; rw [hqk])
  clear c0
  go_loopw [9] (fun t wr => ∃ i : Nat, i ≤ wpn l ∧ t = .int .i64 i ∧ PWS w F m k at' D Q (wpg l) b cap i wr) (fun t _ => wpn l - (intOf t).toNat)
  case atStart => exact ⟨0, Nat.zero_le _, rfl, HP.out⟩
  case round =>
    obtain ⟨i, hi, rfl, hp⟩ := hrel
    by_cases hlt : i < wpn l
    · have hD : decide ((i : Int) < wpn l) = true := by simp; omega
      have hw1' : IntKind.i64.wrap (64 * (i : Int)) = ((64 * i : Nat) : Int) := by rw [IntKind.wrap_i64]; omega
      have hw2' : IntKind.i64.wrap (64 * (i : Int) + 64) = ((64 * i + 64 : Nat) : Int) := by rw [IntKind.wrap_i64]; omega
      have HP1 := Lib.hid hp
      clear hp
      go_wp2_with fail
      obtain ⟨F', e1, e2, e3⟩ := (HP1.out).ex
      have e4 := (HP1.out).pg
      obtain ⟨db', dc', A', wc', es', hrw'⟩ := e1
      have hbl : (((wpg l).drop (64 * i)).take 64).length = 64 := by rw [List.length_take, List.length_drop, HWL.out]; omega
      have hidx : ((at' : Int) + (i : Int)) = ((at' + i : Nat) : Int) := rfl
      rw [hidx]
      refine (Try.rwrite_good hrw' (by rw [pgq_len]; omega) (at' + i) (by omega) ⟨b, 64 * i, none⟩ (cc - 64 * i) _ hbl (e4.win (64 * i) 64 (by rw [HWL.out]; omega))).mono ?_
      rintro e w1 ⟨rfl, F1, q1, q2, _⟩
      rw [← pgq_succ] at q1
      have HN := Lib.hid (PWS.next e2 e3 e4 q1 q2)
      clear e2 e3 e4 q1 q2 hrw' hbl hidx HP1
      go_wp2
      go_roundw
      case rel => first | exact ⟨i + 1, hlt, rfl, HN.out⟩ | ((repeat apply Exists.intro); exact ⟨⟨i + 1, hlt, rfl, HN.out⟩, rfl⟩)
      case measure => simp [intOf]; omega
    · obtain rfl : i = wpn l := by omega
      have hD : decide ((wpn l : Int) < wpn l) = false := by simp
      have HE := Lib.hid hp
      clear hp
      go_wp2
      go_ret
      obtain ⟨F', e1, e2, _⟩ := (HE.out).ex
      exact ⟨rfl, F', e1, e2⟩
theorem Try.rpwrite_bad {w : World} {F : Nat → Prop} {m k : Nat} {D : List UInt8} {Q : List (Nat × List UInt8)} (hd : RV w F m k D Q) (hk : k ≤ 1024) (i : Int) (a : Option Addr) (n c : Nat) (l : List UInt8) (hl : l.length = n) (hn : n ≤ c) (hc : c ≤ maxLen) (h8 : n ≤ 8192) (hX : DataIn w a n l)
    (hfit : ¬ (0 ≤ i ∧ i + wpn l ≤ k)) : Calls Try.prog 31 #[.pointer (some ⟨m, 0, none⟩), .int .i64 i, .slice a n c] w fun e w' => e = .returned (.int .i64 9) ∧ Below w.heap.size w w' := by
  have HD := Lib.hid hd
  have HX := Lib.hid hX
  have HL := Lib.hid hl
  have hw := wpn_pos (l := l) (by omega)
  have hw1 := hw.1
  have hw2 := hw.2.1
  have hq : (64 * wpn l) / 64 = wpn l := by omega
  have hqk : 64 * k / 64 = k := by omega
  have h16 : 64 * k ≤ 65536 := by omega
  clear hd hX hl hw
  by_cases a1 : 0 ≤ i
  · have p1 : decide (i < 0) = false := by simp; omega
    by_cases a2 : i ≤ k
    · have p2 : decide ((k : Int) < i) = false := by simp; omega
      have p3 : decide ((k : Int) - i < wpn l) = true := by simp; omega
      have p4 : IntKind.i64.wrap ((k : Int) - i) = k - i := by rw [IntKind.wrap_i64]; omega
      clear hfit
      go_enter Try.func31, Try.ntmps31
      go_wp2_with fail
      refine (Try.rwrap w a n c l HL.out hn hc h8 HX.out).mono ?_
      rintro e w1 ⟨b, cc, cap, rfl, z1, z2, z3, z4, z5⟩
      obtain ⟨db, dc, A, wc, es, hrw⟩ : RV w1 F m k D Q := (HD.out).stay (Chg.below z5 (fun _ => False)) (fun _ _ => id)
      have c0 := hrw.c0
      have HB := Lib.hid z5
      clear z1 z4 z5 hrw
      go_wp2_with (go_at_call 40; refine (Try.rblocks _ _ _ _ h16 _ c0).mono ?_; rintro e w' ⟨rfl, rfl⟩; rw [hqk])
      go_ret
      exact ⟨rfl, HB.out⟩
    · have p2 : decide ((k : Int) < i) = true := by simp; omega
      clear hfit
      go_enter Try.func31, Try.ntmps31
      go_wp2_with fail
      refine (Try.rwrap w a n c l HL.out hn hc h8 HX.out).mono ?_
      rintro e w1 ⟨b, cc, cap, rfl, z1, z2, z3, z4, z5⟩
      obtain ⟨db, dc, A, wc, es, hrw⟩ : RV w1 F m k D Q := (HD.out).stay (Chg.below z5 (fun _ => False)) (fun _ _ => id)
      have c0 := hrw.c0
      have HB := Lib.hid z5
      clear z1 z4 z5 hrw
      go_wp2_with (go_at_call 40; refine (Try.rblocks _ _ _ _ h16 _ c0).mono ?_; rintro e w' ⟨rfl, rfl⟩; rw [hqk])
      go_ret
      exact ⟨rfl, HB.out⟩
  · have p1 : decide (i < 0) = true := by simp; omega
    clear hfit
    go_enter Try.func31, Try.ntmps31
    go_wp2_with fail
    refine (Try.rwrap w a n c l HL.out hn hc h8 HX.out).mono ?_
    rintro e w1 ⟨b, cc, cap, rfl, z1, z2, z3, z4, z5⟩
    have HB := Lib.hid z5
    clear z1 z4 z5
    go_wp2_with fail
    go_ret
    exact ⟨rfl, HB.out⟩
end Go.Proofs
end

section
namespace Go.Proofs
open Go.RowKit
set_option maxRecDepth 100000
def cat (T : List UInt8) (at' i : Nat) : List UInt8 := (T.drop (64 * at')).take (64 * i)
theorem cat_len {T : List UInt8} {k at' i : Nat} (hT : T.length = 64 * k) (h : at' + i ≤ k) : (cat T at' i).length = 64 * i := by
  unfold cat
  rw [List.length_take, List.length_drop, hT]
  omega
theorem cat_succ (T : List UInt8) (at' i : Nat) : cat T at' i ++ (T.drop ((at' + i) * 64)).take 64 = cat T at' (i + 1) := by
  unfold cat
  have e : T.drop ((at' + i) * 64) = (T.drop (64 * at')).drop (64 * i) := by rw [List.drop_drop]; congr 1; omega
  rw [e, show 64 * (i + 1) = 64 * i + 64 by omega, List.take_add]
structure RPR (w : World) (T : List UInt8) (at' i : Nat) (v : Value) (wr : World) : Prop where
  own : wr.ownsRow w.heap.size 5 1 v (64 * i) ((cat T at' i).map u8v)
  bel : Below w.heap.size w wr
  nn : 0 < i → v ≠ .slice none 0 0
theorem own_below {w w' : World} {B : Nat} {e : TypeId} {size : Nat} {v : Value} {n : Nat} {xs : List Value} (h : w.ownsRow B e size v n xs) (hb : Below w.heap.size w w') : w'.ownsRow B e size v n xs := by
  refine ⟨h.1, ?_⟩
  rcases h.2 with q | ⟨g, cap, cur, rfl, q, hg, r⟩
  · exact .inl q
  · exact .inr ⟨g, cap, cur, rfl, q, (hb.block g (by by_cases hx : g < w.heap.size; exact hx; rw [Array.getElem?_eq_none (by omega)] at hg; cases hg)).trans hg, r⟩
theorem row_use {w : World} {B : Nat} {v : Value} {n : Nat} {l : List UInt8} (h : w.ownsRow B 5 1 v n (l.map u8v)) (hv : v ≠ .slice none 0 0) : ∃ A c, v = .slice (some A) n c ∧ n ≤ c ∧ c ≤ maxLen ∧ DataIn w (some A) n l := by
  obtain ⟨_, b, c, rfl, _, h2, h3⟩ := BY.own h hv
  have h3' := h3
  obtain ⟨pad, _, h5, h6⟩ := h3
  exact ⟨_, c, rfl, h2, h6, fun _ => ⟨_, rfl, h3'.all⟩⟩
set_option maxHeartbeats 4000000 in
theorem Try.rpread {w : World} {F : Nat → Prop} {m k : Nat} {D : List UInt8} {Q : List (Nat × List UInt8)} (hd : RV w F m k D Q) (hk : k ≤ 1024) (hQ : Q.length ≤ 1000000) (at' n : Nat) (h1 : 1 ≤ n) (hfit : at' + n ≤ k) :
    Calls Try.prog 34 #[.pointer (some ⟨m, 0, none⟩), .int .i64 at', .int .i64 n] w (RdL w (unc (cat (dset (fun _ => true) 0 Q D) at' n)) (unl (cat (dset (fun _ => true) 0 Q D) at' n))) := by
  have HD := Lib.hid hd
  obtain ⟨T, hT0⟩ : ∃ T, dset (fun _ => true) 0 Q D = T := ⟨_, rfl⟩
  rw [hT0]
  have hTl : T.length = 64 * k := by
    obtain ⟨db, dc, A, wc, es, h⟩ := hd
    rw [← hT0]
    exact dset_len _ k Q 0 D (AllW.q _ _ h.al) h.Dl
  have HT0 := Lib.hid hT0
  have HTL := Lib.hid hTl
  have hqk : 64 * k / 64 = k := by omega
  have h16 : 64 * k ≤ 65536 := by omega
  have p0 : decide ((n : Int) < 1) = false := by simp; omega
  have p0' : (n = 0) = False := by simp; omega
  have p1 : decide ((at' : Int) < 0) = false := by simp
  have p2 : decide ((k : Int) < at') = false := by simp; omega
  have p2' : decide (k < at') = false := by simp; omega
  have p3 : decide ((k : Int) - at' < n) = false := by simp; omega
  have p4 : IntKind.i64.wrap ((k : Int) - at') = k - at' := by rw [IntKind.wrap_i64]; omega
  obtain ⟨db, dc, A, wc, es, hrw⟩ := hd
  have c0 := hrw.c0
  obtain ⟨i0, hi, hz0, hz1, hz2⟩ := info_parts Try.info5
  have I1 := Lib.hid hi
  have I2 := Lib.hid hz0
  have I3 := Lib.hid hz1
  have I4 := Lib.hid hz2
  clear hrw hT0 hTl hi hz0 hz1 hz2
  have H0 : Hid (RPR w T at' 0 (.slice none 0 0) w) := Lib.hid ⟨by simpa [cat] using World.ownsRow_nil w w.heap.size 5 1, Below.refl _ _, fun h => absurd h (Nat.lt_irrefl _)⟩
  go_enter Try.func34, Try.ntmps34
  go_wp2_with (go_at_call 40; refine (Try.rblocks _ _ _ _ h16 _ c0).mono ?_; rintro e w' ⟨rfl, rfl⟩; rw [hqk])
  clear c0
  go_loopw [8, 9] (fun v t wr => ∃ i : Nat, i ≤ n ∧ t = .int .i64 i ∧ RPR w T at' i v wr) (fun _ t _ => n - (intOf t).toNat)
  case atStart => exact ⟨0, Nat.zero_le _, rfl, H0.out⟩
  case round =>
    obtain ⟨i, hi, rfl, hp⟩ := hrel
    by_cases hlt : i < n
    · have hD : decide ((i : Int) < n) = true := by simp; omega
      have HP := Lib.hid hp
      clear hp
      go_wp2_with fail
      have hidx : ((at' : Int) + (i : Int)) = ((at' + i : Nat) : Int) := rfl
      rw [hidx]
      obtain ⟨db', dc', A', wc', es', hrw'⟩ := (HD.out).stay (Chg.below (HP.out).bel (fun _ => False)) (fun _ _ => id)
      have htold := told_dset k D hrw'.Dl (at' + i) (by omega) Q.length Q rfl (AllW.q _ _ hrw'.al)
      rw [HT0.out] at htold
      refine (Try.rread_good hrw' hQ (at' + i) (by omega)).mono ?_
      rw [htold]
      rintro e w1 ⟨b, c, rfl, z1, z2, z3, z4⟩
      have hown : w1.ownsRow w.heap.size 5 1 u8 (64 * i) ((cat T at' i).map u8v) := own_below (HP.out).own z4
      have hB1 := Lib.hid ((HP.out).bel.trans (z4.mono (HP.out).bel.size))
      have hsz := (HP.out).bel.size
      have hsz1 := (hB1.out).size
      have hall := z3.all
      have hl64 : ((T.drop ((at' + i) * 64)).take 64).length = 64 := by rw [List.length_take, List.length_drop, HTL.out]; omega
      have hcs := cat_succ T at' i
      generalize (T.drop ((at' + i) * 64)).take 64 = X at hall hl64 hcs
      have HL64 := Lib.hid hl64
      have HCS := Lib.hid hcs
      have h63 : 64 * i + 64 ≤ maxLen := by unfold maxLen; omega
      have HG : Hid (∀ kk, u8.ownBlock = some kk → w.heap.size ≤ kk) := Lib.hid (fun kk hkk => by
        rcases hown.2 with ⟨rfl, _⟩ | ⟨g, cap, cur, rfl, hg, _⟩
        · simp [Value.ownBlock] at hkk
        · simp [Value.ownBlock] at hkk; omega)
      clear htold hrw' hidx HP hl64 hcs z1 z2 z3 z4
      go_wp2_with (at_builtin; refine wpList_append_own _ rfl (.tmp 45) (.tmp 46) 31 rfl w.heap.size 5 i0 (.int .u8 0) 1 1 Try.underlying31 I1.out I2.out I3.out I4.out rfl (by decide) _ _ _ rfl hown _ _ _ (X.map u8v) rfl ?c1 hall (u8v_one _) h63 ?c2 ?c3 ?c4)
      case c1 => rw [List.length_map, HL64.out]
      case c2 => omega
      case c3 => omega
      case c4 =>
        intro v' w2 hown1 hg hne
        have hv : v' ≠ .slice none 0 0 := by simpa using hne
        have hb2 : Below w.heap.size w w2 := (hB1.out).grown hg (hB1.out).size (HG.out)
        rw [← List.map_append, HCS.out] at hown1
        have HN : Hid (RPR w T at' (i + 1) v' w2) := Lib.hid ⟨hown1, hb2, fun _ => hv⟩
        clear hown1 hg hne hv hb2 hown hall
        go_wp2
        go_roundw
        case rel => first | exact ⟨i + 1, hlt, rfl, HN.out⟩ | ((repeat apply Exists.intro); exact ⟨⟨i + 1, hlt, rfl, HN.out⟩, rfl⟩)
        case measure => simp [intOf]; omega
    · obtain rfl : i = n := by omega
      have hD : decide ((i : Int) < i) = false := by simp
      obtain ⟨A, c, rfl, q1, q2, q3⟩ := row_use hp.own (hp.nn (by omega))
      have HB := Lib.hid hp.bel
      have HQ := Lib.hid q3
      clear hp q3
      go_wp2_with fail
      refine (Try.runwrap _ _ _ _ _ (cat_len HTL.out hfit) q1 q2 (by omega) HQ.out).mono ?_
      rintro e w2 ⟨v, rfl, b1, x1⟩
      have B1 := Lib.hid b1
      have X1 := Lib.hid x1
      clear b1 x1
      go_wp2
      go_ret2
      exact ⟨_, rfl, (HB.out).trans ((B1.out).mono (HB.out).size), X1.out⟩
end Go.Proofs
end

section
namespace Go.Proofs
open Go.RowKit
set_option maxRecDepth 100000
theorem Try.rpread_bad {w : World} {F : Nat → Prop} {m k : Nat} {D : List UInt8} {Q : List (Nat × List UInt8)} (hd : RV w F m k D Q) (hk : k ≤ 1024) (i n : Int) (hfit : ¬ (1 ≤ n ∧ 0 ≤ i ∧ i + n ≤ k)) :
    Calls Try.prog 34 #[.pointer (some ⟨m, 0, none⟩), .int .i64 i, .int .i64 n] w fun e w' => e = .returned (.tuple #[.slice none 0 0, .int .i64 9]) ∧ w = w' := by
  have hqk : 64 * k / 64 = k := by omega
  have h16 : 64 * k ≤ 65536 := by omega
  obtain ⟨db, dc, A, wc, es, hrw⟩ := hd
  have c0 := hrw.c0
  clear hrw
  by_cases a0 : 1 ≤ n
  · have p0 : decide (n < 1) = false := by simp; omega
    by_cases a1 : 0 ≤ i
    · have p1 : decide (i < 0) = false := by simp; omega
      by_cases a2 : i ≤ k
      · have p2 : decide ((k : Int) < i) = false := by simp; omega
        have p3 : decide ((k : Int) - i < n) = true := by simp; omega
        have p4 : IntKind.i64.wrap ((k : Int) - i) = k - i := by rw [IntKind.wrap_i64]; omega
        clear hfit
        go_enter Try.func34, Try.ntmps34
        go_wp2_with (go_at_call 40; refine (Try.rblocks _ _ _ _ h16 _ c0).mono ?_; rintro e w' ⟨rfl, rfl⟩; rw [hqk])
        go_ret2
        exact ⟨rfl, rfl⟩
      · have p2 : decide ((k : Int) < i) = true := by simp; omega
        clear hfit
        go_enter Try.func34, Try.ntmps34
        go_wp2_with (go_at_call 40; refine (Try.rblocks _ _ _ _ h16 _ c0).mono ?_; rintro e w' ⟨rfl, rfl⟩; rw [hqk])
        go_ret2
        exact ⟨rfl, rfl⟩
    · have p1 : decide (i < 0) = true := by simp; omega
      clear hfit
      go_enter Try.func34, Try.ntmps34
      go_wp2_with fail
      go_ret2
      exact ⟨rfl, rfl⟩
  · have p0 : decide (n < 1) = true := by simp; omega
    clear hfit
    go_enter Try.func34, Try.ntmps34
    go_wp2_with fail
    go_ret2
    exact ⟨rfl, rfl⟩
end Go.Proofs
end

section
namespace Go.Proofs
open Go.RowKit
set_option maxRecDepth 100000
set_option maxHeartbeats 4000000 in
theorem Try.pread {w : World} {F : Nat → Prop} {d k : Nat} {L T : List UInt8} {Q : List (Nat × List UInt8)} (hd : DV w F d k L T Q) (hk : k ≤ 1024) (at' n : Nat) (h1 : 1 ≤ n) (hfit : at' + n ≤ k) :
    Calls Try.prog 33 #[.pointer (some ⟨d, 0, none⟩), .int .i64 at', .int .i64 n] w (RdL w (unc (cat T at' n)) (unl (cat T at' n))) := by
  have HD := Lib.hid hd
  have hTl : T.length = 64 * k := by
    obtain ⟨lb, cl, tb, ct, vw, ds, h⟩ := hd
    exact h.Tl
  have HTL := Lib.hid hTl
  obtain ⟨i0, hi, hz0, hz1, hz2⟩ := info_parts Try.info5
  have I1 := Lib.hid hi
  have I2 := Lib.hid hz0
  have I3 := Lib.hid hz1
  have I4 := Lib.hid hz2
  clear hd hTl hi hz0 hz1 hz2
  have H0 : Hid (RPR w T at' 0 (.slice none 0 0) w) := Lib.hid ⟨by simpa [cat] using World.ownsRow_nil w w.heap.size 5 1, Below.refl _ _, fun h => absurd h (Nat.lt_irrefl _)⟩
  go_enter Try.func33, Try.ntmps33
  go_wp2
  refine wp_scope_once 0 (fun a' wr => ∃ (i : Nat) (v : Value), i ≤ n ∧ RPR w T at' i v wr ∧ ∃ u10 u11 u12 u13 u14 u15 u16 u17 u18 u19 u20 u21 u22 u23 u24 u25 u26 u27 u28 u29 u30 u31 u32 u33 u34 u35 u36 u37 u38 u39 : Value, a' = { tmps := #[.pointer (some ⟨d, 0, none⟩), .int .i64 at', .int .i64 n, undef, undef, undef, .slice none 0 0, .int .i64 0, v, .int .i64 i, u10, u11, u12, u13, u14, u15, u16, u17, u18, u19, u20, u21, u22, u23, u24, u25, u26, u27, u28, u29, u30, u31, u32, u33, u34, u35, u36, u37, u38, u39], defers := [] }) (fun a' _ => n - (intOf (a'.tmps.getD 9 undef)).toNat) rfl ?_ ?_
  · intro hL
    go_wp2_with fail
    refine (Try.there_yes (HD.out) at' n (by omega)).mono ?_
    rintro e w2 ⟨rfl, rfl⟩
    go_wp2_with (refine wp_label ?_; rename_i Q0 K0 hK; refine hK _ _ (hL _ _ ?_); exact ⟨0, _, Nat.zero_le _, H0.out, _, _, _, _, _, _, _, _, _, _, _, _, _, _, _, _, _, _, _, _, _, _, _, _, _, _, _, _, _, _, rfl⟩)
  · rintro a' wr ⟨i, v, hi, hp, u10, u11, u12, u13, u14, u15, u16, u17, u18, u19, u20, u21, u22, u23, u24, u25, u26, u27, u28, u29, u30, u31, u32, u33, u34, u35, u36, u37, u38, u39, rfl⟩
    by_cases hlt : i < n
    · have hD : ((i : Int) == n) = false := by simp; omega
      have hD2 : decide ((i : Int) = n) = false := by simp; omega
      have hD3 : decide (i = n) = false := by simp; omega
      have HP := Lib.hid hp
      clear hp
      go_wp2_with fail
      have hidx : ((at' : Int) + (i : Int)) = ((at' + i : Nat) : Int) := rfl
      rw [hidx]
      obtain ⟨lb, cl, tb, ct, vw, ds, hdw⟩ := (HD.out).stay (Chg.below (HP.out).bel (fun _ => False)) (fun _ _ => id)
      refine (Try.read_good hdw (at' + i) (by omega)).mono ?_
      rintro e w1 ⟨b, c, rfl, z1, z2, z3, z4⟩
      have hown : w1.ownsRow w.heap.size 5 1 v (64 * i) ((cat T at' i).map u8v) := own_below (HP.out).own z4
      have hB1 := Lib.hid ((HP.out).bel.trans (z4.mono (HP.out).bel.size))
      have hsz := (HP.out).bel.size
      have hsz1 := (hB1.out).size
      have hall := z3.all
      have hl64 : ((T.drop ((at' + i) * 64)).take 64).length = 64 := by rw [List.length_take, List.length_drop, HTL.out]; omega
      have hcs := cat_succ T at' i
      generalize (T.drop ((at' + i) * 64)).take 64 = X at hall hl64 hcs
      have HL64 := Lib.hid hl64
      have HCS := Lib.hid hcs
      have h63 : 64 * i + 64 ≤ maxLen := by unfold maxLen; omega
      have HG : Hid (∀ kk, v.ownBlock = some kk → w.heap.size ≤ kk) := Lib.hid (fun kk hkk => by
        rcases hown.2 with ⟨rfl, _⟩ | ⟨g, cap, cur, rfl, hg, _⟩
        · simp [Value.ownBlock] at hkk
        · simp [Value.ownBlock] at hkk; omega)
      clear hdw hidx HP hl64 hcs z1 z2 z3 z4
      go_wp2_with (at_builtin; refine wpList_append_own _ rfl (.tmp 35) (.tmp 36) 31 rfl w.heap.size 5 i0 (.int .u8 0) 1 1 Try.underlying31 I1.out I2.out I3.out I4.out rfl (by decide) _ _ _ rfl hown _ _ _ (X.map u8v) rfl ?c1 hall (u8v_one _) h63 ?c2 ?c3 ?c4)
      case c1 => rw [List.length_map, HL64.out]
      case c2 => omega
      case c3 => omega
      case c4 =>
        intro v' w2 hown1 hg hne
        have hv : v' ≠ .slice none 0 0 := by simpa using hne
        have hb2 : Below w.heap.size w w2 := (hB1.out).grown hg (hB1.out).size (HG.out)
        rw [← List.map_append, HCS.out] at hown1
        have HN : Hid (RPR w T at' (i + 1) v' w2) := Lib.hid ⟨hown1, hb2, fun _ => hv⟩
        clear hown1 hg hne hv hb2 hown hall
        go_wp2
        go_step3
        exact ⟨rfl, ⟨i + 1, _, hlt, HN.out, _, _, _, _, _, _, _, _, _, _, _, _, _, _, _, _, _, _, _, _, _, _, _, _, _, _, _, _, _, _, rfl⟩, by simp [intOf]; omega⟩
    · obtain rfl : i = n := by omega
      obtain ⟨A, c, rfl, q1, q2, q3⟩ := row_use hp.own (hp.nn (by omega))
      have HB := Lib.hid hp.bel
      have HQ := Lib.hid q3
      clear hp q3
      go_wp2_with fail
      refine (Try.unwrap _ _ _ _ _ (cat_len HTL.out hfit) q1 q2 (by omega) HQ.out).mono ?_
      rintro e w2 ⟨v, rfl, b1, x1⟩
      have B1 := Lib.hid b1
      have X1 := Lib.hid x1
      clear b1 x1
      go_wp2
      simp only [Exit.jump]
      go_ret2
      exact ⟨_, rfl, (HB.out).trans ((B1.out).mono (HB.out).size), X1.out⟩
theorem Try.pread_bad {w : World} {F : Nat → Prop} {d k : Nat} {L T : List UInt8} {Q : List (Nat × List UInt8)} (hd : DV w F d k L T Q) (i n : Int) (hfit : ¬ (1 ≤ n ∧ 0 ≤ i ∧ i + n ≤ k)) :
    Calls Try.prog 33 #[.pointer (some ⟨d, 0, none⟩), .int .i64 i, .int .i64 n] w fun e w' => e = .returned (.tuple #[.slice none 0 0, .int .i64 9]) ∧ w = w' := by
  have HD := Lib.hid hd
  have HF := Lib.hid hfit
  clear hd hfit
  go_enter Try.func33, Try.ntmps33
  go_wp2
  refine wp_scope_once 0 (fun a' wr => False) (fun a' _ => 0) rfl ?_ (fun _ _ h => h.elim)
  intro hL
  clear hL
  go_wp2_with fail
  refine (Try.there_no (HD.out) i n (fun q => HF.out ⟨q.1, q.2.2.1, by omega⟩)).mono ?_
  rintro e w2 ⟨rfl, rfl⟩
  go_wp2_with fail
  simp only [Exit.jump]
  go_ret2
  exact ⟨rfl, rfl⟩
end Go.Proofs
end

section
namespace Go.Proofs
open Go.RowKit
set_option maxRecDepth 100000
def spl (T : List UInt8) (o : Nat) (b : List UInt8) : List UInt8 := T.take o ++ (b ++ T.drop (o + b.length))
theorem spl_get {T b : List UInt8} {o : Nat} (h : o + b.length ≤ T.length) (i : Nat) : (spl T o b)[i]? = if i < o then T[i]? else if i < o + b.length then b[i - o]? else T[i]? := by
  unfold spl
  have hl : (T.take o).length = o := by rw [List.length_take]; omega
  by_cases h1 : i < o
  · rw [if_pos h1, List.getElem?_append_left (by omega), List.getElem?_take_of_lt h1]
  · rw [if_neg h1, List.getElem?_append_right (by omega), hl]
    by_cases h2 : i < o + b.length
    · rw [if_pos h2, List.getElem?_append_left (by omega)]
    · rw [if_neg h2, List.getElem?_append_right (by omega), List.getElem?_drop]
      congr 1
      omega
theorem cat_get (T : List UInt8) (a n i : Nat) : (cat T a n)[i]? = if i < 64 * n then T[64 * a + i]? else none := by
  unfold cat
  by_cases h : i < 64 * n
  · rw [if_pos h, List.getElem?_take_of_lt h, List.getElem?_drop]
  · rw [if_neg h, List.getElem?_eq_none]
    rw [List.length_take]
    omega
theorem cat_spl {T p : List UInt8} {k a n : Nat} (hT : T.length = 64 * k) (hp : p.length = 64 * n) (h : a + n ≤ k) : cat (spl T (64 * a) p) a n = p := by
  refine List.ext_getElem? fun i => ?_
  rw [cat_get]
  by_cases h1 : i < 64 * n
  · rw [if_pos h1, spl_get (by omega), if_neg (by omega), if_pos (by omega)]
    congr 1
    omega
  · rw [if_neg h1, List.getElem?_eq_none (by omega)]
theorem cat_far {T b : List UInt8} {k x n y m : Nat} (hT : T.length = 64 * k) (hb : b.length = 64 * m) (h : y + m ≤ k) (hd : x + n ≤ y ∨ y + m ≤ x) : cat (spl T (64 * y) b) x n = cat T x n := by
  refine List.ext_getElem? fun i => ?_
  rw [cat_get, cat_get]
  by_cases h1 : i < 64 * n
  · rw [if_pos h1, if_pos h1, spl_get (by omega)]
    rcases hd with hd | hd
    · rw [if_pos (by omega)]
    · rw [if_neg (by omega), if_neg (by omega)]
  · rw [if_neg h1, if_neg h1]
theorem spl_len {T b : List UInt8} {o : Nat} (h : o + b.length ≤ T.length) : (spl T o b).length = T.length := by
  unfold spl
  simp only [List.length_append, List.length_take, List.length_drop]
  omega
theorem dset_pgq (Q : List (Nat × List UInt8)) (a : Nat) (p L : List UInt8) (k : Nat) (hT : (dset (fun _ => true) 0 Q L).length = 64 * k) : ∀ n : Nat, 64 * n ≤ p.length → a + n ≤ k → dset (fun _ => true) 0 (pgq Q a p n) L = spl (dset (fun _ => true) 0 Q L) (64 * a) (p.take (64 * n))
  | 0, _, _ => by
    rw [pgq_zero]
    simp [spl]
  | n + 1, h1, h2 => by
    have e := dset_pgq Q a p L k hT n (by omega) (by omega)
    rw [pgq_succ, dset_snoc, if_pos rfl, e]
    have hl : (p.take (64 * n)).length = 64 * n := by rw [List.length_take]; omega
    have hl2 : (p.take (64 * (n + 1))).length = 64 * (n + 1) := by rw [List.length_take]; omega
    have hb : ((p.drop (64 * n)).take 64).length = 64 := by rw [List.length_take, List.length_drop]; omega
    have hs := spl_len (T := dset (fun _ => true) 0 Q L) (b := p.take (64 * n)) (o := 64 * a) (by omega)
    have hq : ∀ (X : List UInt8), X.take (((a + n, (p.drop (64 * n)).take 64) : Nat × List UInt8).1 * 64) ++ (((a + n, (p.drop (64 * n)).take 64) : Nat × List UInt8).2 ++ X.drop (((a + n, (p.drop (64 * n)).take 64) : Nat × List UInt8).1 * 64 + 64)) = spl X (64 * (a + n)) ((p.drop (64 * n)).take 64) := by
      intro X
      unfold spl
      rw [hb, show 64 * (a + n) = (a + n) * 64 from Nat.mul_comm _ _]
    rw [hq]
    refine List.ext_getElem? fun i => ?_
    rw [spl_get (by omega), spl_get (by omega), spl_get (by omega), hl, hl2, hb]
    by_cases c1 : i < 64 * a
    · simp only [if_pos c1, if_pos (show i < 64 * (a + n) by omega)]
    · by_cases c2 : i < 64 * a + 64 * n
      · simp only [if_neg c1, if_pos c2, if_pos (show i < 64 * (a + n) by omega), if_pos (show i < 64 * a + 64 * (n + 1) by omega)]
        rw [List.getElem?_take_of_lt (by omega), List.getElem?_take_of_lt (by omega)]
      · by_cases c3 : i < 64 * a + 64 * (n + 1)
        · simp only [if_neg c1, if_neg c2, if_pos c3, if_neg (show ¬ i < 64 * (a + n) by omega), if_pos (show i < 64 * (a + n) + 64 by omega)]
          rw [List.getElem?_take_of_lt (by omega), List.getElem?_take_of_lt (by omega), List.getElem?_drop]
          congr 1
          omega
        · simp only [if_neg c1, if_neg c2, if_neg c3, if_neg (show ¬ i < 64 * (a + n) by omega), if_neg (show ¬ i < 64 * (a + n) + 64 by omega)]
theorem unc_wpg {l : List UInt8} (h : l.length ≤ 8192) : unc (wpg l) = 0 ∧ unl (wpg l) = l := by
  have hb := Sp.wrap_bytes (iv_bytes l)
  have e : iv (wpg l) = Sp.wrap (iv l) := iv_bv hb
  have hu := Sp.unwB_wrap (b := iv l) (iv_bytes l) (by rw [iv_len]; exact h)
  unfold unc unl
  rw [e, if_pos hu, if_pos hu, Sp.unwD_wrap (by rw [iv_len]; exact h), bv_iv]
  exact ⟨rfl, rfl⟩
theorem unc_or (l : List UInt8) : (unc l = 0) ∨ (unc l = 12 ∧ unl l = []) := by
  unfold unc unl
  by_cases h : Sp.unwB (iv l) = true
  · rw [if_pos h]; exact .inl rfl
  · rw [if_neg h, if_neg h]; exact .inr ⟨rfl, rfl⟩
def pcc (k : Nat) (i : Int) (l : List UInt8) : Int := if 0 ≤ i ∧ i + wpn l ≤ k then 0 else 9
def pqq (k : Nat) (i : Int) (l : List UInt8) : List (Nat × List UInt8) := if 0 ≤ i ∧ i + wpn l ≤ k then pgq [] i.toNat (wpg l) (wpn l) else []
def prc (k : Nat) (i n : Int) (T : List UInt8) : Int := if 1 ≤ n ∧ 0 ≤ i ∧ i + n ≤ k then unc (cat T i.toNat n.toNat) else 9
def prl (k : Nat) (i n : Int) (T : List UInt8) : List UInt8 := if 1 ≤ n ∧ 0 ≤ i ∧ i + n ≤ k then unl (cat T i.toNat n.toNat) else []
theorem pqq_len (k : Nat) (i : Int) (l : List UInt8) (h8 : l.length ≤ 8192) : (pqq k i l).length ≤ 129 := by
  unfold pqq
  split
  · rw [pgq_len]; have := (wpn_pos h8).2.1; simp; omega
  · simp
theorem upd_below {w w' : World} (F : Nat → Prop) (h : Below w.heap.size w w') : Upd w w' F F := ⟨h.os, h.tape, h.output, h.size, fun b q _ => h.block b q, fun _ q => .inl q⟩
def PW (w : World) (F : Nat → Prop) (d k : Nat) (L : List UInt8) (Q : List (Nat × List UInt8)) (c : Int) (e : Ending) (w' : World) : Prop := e = .returned (.int .i64 c) ∧ ∃ F', DV w' F' d k L (dset (fun _ => true) 0 Q L) Q ∧ Upd w w' F F'
def RPW (w : World) (F : Nat → Prop) (m k : Nat) (D : List UInt8) (Q : List (Nat × List UInt8)) (c : Int) (e : Ending) (w' : World) : Prop := e = .returned (.int .i64 c) ∧ ∃ F', RV w' F' m k D Q ∧ Upd w w' F F'
theorem Try.pw_any {w : World} {F : Nat → Prop} {d k : Nat} {L : List UInt8} (hd : DV w F d k L L []) (hk : k ≤ 1024) (i : Int) (a : Option Addr) (n c : Nat) (l : List UInt8) (hl : l.length = n) (hn : n ≤ c) (hc : c ≤ maxLen) (h8 : n ≤ 8192) (hX : DataIn w a n l) :
    Calls Try.prog 30 #[.pointer (some ⟨d, 0, none⟩), .int .i64 i, .slice a n c] w (PW w F d k L (pqq k i l) (pcc k i l)) := by
  unfold pqq pcc
  by_cases h : 0 ≤ i ∧ i + wpn l ≤ k
  · rw [if_pos h, if_pos h]
    obtain ⟨at', rfl⟩ : ∃ at' : Nat, i = at' := ⟨i.toNat, by omega⟩
    exact Try.pwrite (Q := []) hd hk (by simp) at' a n c l hl hn hc h8 hX (by omega)
  · rw [if_neg h, if_neg h]
    refine (Try.pwrite_bad hd i a n c l hl hn hc h8 hX h).mono ?_
    rintro e w' ⟨rfl, hb⟩
    exact ⟨rfl, F, hd.stay (Chg.below hb (fun _ => False)) (fun _ _ => id), upd_below F hb⟩
theorem Try.rpw_any {w : World} {F : Nat → Prop} {m k : Nat} {D : List UInt8} (hd : RV w F m k D []) (hk : k ≤ 1024) (i : Int) (a : Option Addr) (n c : Nat) (l : List UInt8) (hl : l.length = n) (hn : n ≤ c) (hc : c ≤ maxLen) (h8 : n ≤ 8192) (hX : DataIn w a n l) :
    Calls Try.prog 31 #[.pointer (some ⟨m, 0, none⟩), .int .i64 i, .slice a n c] w (RPW w F m k D (pqq k i l) (pcc k i l)) := by
  unfold pqq pcc
  by_cases h : 0 ≤ i ∧ i + wpn l ≤ k
  · rw [if_pos h, if_pos h]
    obtain ⟨at', rfl⟩ : ∃ at' : Nat, i = at' := ⟨i.toNat, by omega⟩
    exact Try.rpwrite (Q := []) hd hk (by simp) at' a n c l hl hn hc h8 hX (by omega)
  · rw [if_neg h, if_neg h]
    refine (Try.rpwrite_bad hd hk i a n c l hl hn hc h8 hX h).mono ?_
    rintro e w' ⟨rfl, hb⟩
    exact ⟨rfl, F, hd.stay (Chg.below hb (fun _ => False)) (fun _ _ => id), upd_below F hb⟩
theorem rdl_none {w : World} : RdL w 9 [] (.returned (.tuple #[.slice none 0 0, .int .i64 9])) w := ⟨_, rfl, Below.refl _ _, ⟨_, _, rfl⟩, fun w2 _ => str_sl0 w2 _ _⟩
theorem Try.pr_any {w : World} {F : Nat → Prop} {d k : Nat} {L T : List UInt8} {Q : List (Nat × List UInt8)} (hd : DV w F d k L T Q) (hk : k ≤ 1024) (i n : Int) :
    Calls Try.prog 33 #[.pointer (some ⟨d, 0, none⟩), .int .i64 i, .int .i64 n] w (RdL w (prc k i n T) (prl k i n T)) := by
  unfold prc prl
  by_cases h : 1 ≤ n ∧ 0 ≤ i ∧ i + n ≤ k
  · rw [if_pos h, if_pos h]
    obtain ⟨x, rfl⟩ : ∃ x : Nat, i = x := ⟨i.toNat, by omega⟩
    obtain ⟨y, rfl⟩ : ∃ y : Nat, n = y := ⟨n.toNat, by omega⟩
    exact Try.pread hd hk x y (by omega) (by omega)
  · rw [if_neg h, if_neg h]
    refine (Try.pread_bad hd i n h).mono ?_
    rintro e w' ⟨rfl, rfl⟩
    exact rdl_none
theorem Try.rpr_any {w : World} {F : Nat → Prop} {m k : Nat} {D T : List UInt8} {Q : List (Nat × List UInt8)} (hd : RV w F m k D Q) (hk : k ≤ 1024) (hQ : Q.length ≤ 1000000) (i n : Int) (hT : dset (fun _ => true) 0 Q D = T) :
    Calls Try.prog 34 #[.pointer (some ⟨m, 0, none⟩), .int .i64 i, .int .i64 n] w (RdL w (prc k i n T) (prl k i n T)) := by
  subst hT
  unfold prc prl
  by_cases h : 1 ≤ n ∧ 0 ≤ i ∧ i + n ≤ k
  · rw [if_pos h, if_pos h]
    obtain ⟨x, rfl⟩ : ∃ x : Nat, i = x := ⟨i.toNat, by omega⟩
    obtain ⟨y, rfl⟩ : ∃ y : Nat, n = y := ⟨n.toNat, by omega⟩
    exact Try.rpread hd hk hQ x y (by omega) (by omega)
  · rw [if_neg h, if_neg h]
    refine (Try.rpread_bad hd hk i n h).mono ?_
    rintro e w' ⟨rfl, rfl⟩
    exact rdl_none
end Go.Proofs
end

section
namespace Go.Proofs
open Go.RowKit
set_option maxRecDepth 100000
theorem DataIn.bel {w w' : World} {a : Option Addr} {n : Nat} {l : List UInt8} (h : DataIn w a n l) (hb : Below w.heap.size w w') : DataIn w' a n l := fun h0 => by
  obtain ⟨X, e, hX⟩ := h h0
  exact ⟨X, e, cells_below hX hb⟩
theorem DataIn.str {w : World} {a : Option Addr} {n c : Nat} {l : List UInt8} (h : DataIn w a n l) (hl : l.length = n) : (convert 31 9 (.slice a n c)).run Try.prog w = .ok (.string (strOf l)) w := by
  rcases Nat.eq_zero_or_pos n with h0 | h0
  · subst h0
    obtain rfl := List.eq_nil_of_length_eq_zero hl
    exact str_sl0 w a c
  · obtain ⟨X, rfl, hX⟩ := h h0
    exact str_arg hX n c hl
theorem apart_two {k x y : Nat} {a b L : List UInt8} (hL : L.length = 64 * k) (h8 : a.length ≤ 8192) (h9 : b.length ≤ 8192) (hx : x + wpn a ≤ k) (hy : y + wpn b ≤ k) :
    cat (dset (fun _ => true) 0 (pgq (pgq [] x (wpg a) (wpn a)) y (wpg b) (wpn b)) L) y (wpn b) = wpg b ∧
    (x + wpn a ≤ y ∨ y + wpn b ≤ x → cat (dset (fun _ => true) 0 (pgq (pgq [] x (wpg a) (wpn a)) y (wpg b) (wpn b)) L) x (wpn a) = wpg a) := by
  have la := wpg_len h8
  have lb := wpg_len h9
  have e1 := dset_pgq [] x (wpg a) L k hL (wpn a) (by omega) hx
  rw [List.take_of_length_le (by omega)] at e1
  have e0 : dset (fun _ => true) 0 [] L = L := rfl
  rw [e0] at e1
  have l1 : (dset (fun _ => true) 0 (pgq [] x (wpg a) (wpn a)) L).length = 64 * k := by rw [e1, spl_len (by omega), hL]
  have e2 := dset_pgq (pgq [] x (wpg a) (wpn a)) y (wpg b) L k l1 (wpn b) (by omega) hy
  rw [List.take_of_length_le (by omega)] at e2
  rw [e2]
  refine ⟨cat_spl l1 lb hy, fun hd => ?_⟩
  rw [cat_far l1 lb hy hd, e1]
  exact cat_spl hL la hx
theorem wpn_three {l : List UInt8} (h : l.length ≤ 120) : wpn l ≤ 3 := by
  have h1 := Sp.psz_in (n := (l.length : Int)) (by omega)
  have h2 := Sp.enc_len (u := (l.length : Int)) (by omega) (by omega)
  have h3 := (wpn_pos (l := l) (by omega)).2.2
  omega
theorem prc_in {k i n : Nat} {T : List UInt8} (h1 : 1 ≤ n) (h : i + n ≤ k) : prc k i n T = unc (cat T i n) ∧ prl k i n T = unl (cat T i n) := by
  unfold prc prl
  rw [if_pos (by omega), if_pos (by omega)]
  simp
theorem apart_told {k x y : Nat} {a b L : List UInt8} (hL : L.length = 64 * k) (h8 : a.length ≤ 8192) (h9 : b.length ≤ 8192) (hx : x + wpn a ≤ k) (hy : y + wpn b ≤ k) (T : List UInt8) (hT : T = dset (fun _ => true) 0 (pgq (pgq [] x (wpg a) (wpn a)) y (wpg b) (wpn b)) L) :
    prc k y (wpn b) T = 0 ∧ prl k y (wpn b) T = b ∧ (x + wpn a ≤ y ∨ y + wpn b ≤ x → prc k x (wpn a) T = 0 ∧ prl k x (wpn a) T = a) ∧ (x = y → wpn a = wpn b → prc k x (wpn a) T = 0 ∧ prl k x (wpn a) T = b) ∧ (prc k x (wpn a) T = 0 ∨ (prc k x (wpn a) T = 12 ∧ prl k x (wpn a) T = [])) := by
  subst hT
  have pa := (wpn_pos h8).1
  have pb := (wpn_pos h9).1
  obtain ⟨t1, t2⟩ := apart_two hL h8 h9 hx hy
  have e1 := prc_in (T := dset (fun _ => true) 0 (pgq (pgq [] x (wpg a) (wpn a)) y (wpg b) (wpn b)) L) pb hy
  have e2 := prc_in (T := dset (fun _ => true) 0 (pgq (pgq [] x (wpg a) (wpn a)) y (wpg b) (wpn b)) L) pa hx
  rw [t1, (unc_wpg h9).1, (unc_wpg h9).2] at e1
  refine ⟨e1.1, e1.2, fun hd => ?_, fun h1 h2 => ?_, ?_⟩
  · rw [t2 hd, (unc_wpg h8).1, (unc_wpg h8).2] at e2
    exact e2
  · subst h1
    have hc : cat (dset (fun _ => true) 0 (pgq (pgq [] x (wpg a) (wpn a)) x (wpg b) (wpn b)) L) x (wpn a) = wpg b := by rw [h2] at t1 ⊢; exact t1
    rw [hc, (unc_wpg h9).1, (unc_wpg h9).2] at e2
    exact e2
  · rw [e2.1, e2.2]
    exact unc_or _
theorem upd_bel {w w4 w5 : World} {F F5 : Nat → Prop} (hb : Below w.heap.size w w4) (hu : Upd w4 w5 F F5) (hF : ∀ b, F b → w.heap.size ≤ b) : Below w.heap.size w w5 ∧ ∀ b, F5 b → w.heap.size ≤ b := by
  have hs := hb.size
  refine ⟨⟨hu.os.trans hb.os, hu.tape.trans hb.tape, hu.output.trans hb.output, Nat.le_trans hs hu.size, fun b q => (hu.block b (by omega) (fun q2 => by have := hF b q2; omega)).trans (hb.block b q)⟩, fun b q => ?_⟩
  rcases hu.grow b q with q | q
  · exact hF b q
  · omega
set_option maxHeartbeats 4000000 in
theorem Try.apart (w : World) (A B : Option Addr) (n1 c1 n2 c2 : Nat) (l1 l2 : List UInt8) (hl1 : l1.length = n1) (hl2 : l2.length = n2) (hn1 : n1 ≤ c1) (hc1 : c1 ≤ maxLen) (hn2 : n2 ≤ c2) (hc2 : c2 ≤ maxLen) (hX1 : DataIn w A n1 l1) (hX2 : DataIn w B n2 l2) (s t : Nat)
    (h1 : n1 ≤ 120) (h2 : n2 ≤ 120) : Calls Try.prog 9 #[.slice A n1 c1, .slice B n2 c2, .int .u8 s, .int .u8 t] w (YesO w) := by
  have HX1 := Lib.hid hX1
  have HX2 := Lib.hid hX2
  have HL1 := Lib.hid hl1
  have HL2 := Lib.hid hl2
  have d1 : decide (120 < (n1 : Int)) = false := by simp; omega
  have d2 : decide (120 < (n2 : Int)) = false := by simp; omega
  have d1' : decide (120 < n1) = false := by simp; omega
  have d2' : decide (120 < n2) = false := by simp; omega
  have P1 := Lib.hid (wpn_pos (l := l1) (by omega))
  have P2 := Lib.hid (wpn_pos (l := l2) (by omega))
  have T1 := Lib.hid (wpn_three (l := l1) (by omega))
  have T2 := Lib.hid (wpn_three (l := l2) (by omega))
  have k1 : decide ((wpn l1 : Int) < 1) = false := by have := (P1.out).1; simp; omega
  have k2 : decide ((wpn l2 : Int) < 1) = false := by have := (P2.out).1; simp; omega
  have k3 : decide (3 < (wpn l1 : Int)) = false := by have := T1.out; simp; omega
  have k4 : decide (3 < (wpn l2 : Int)) = false := by have := T2.out; simp; omega
  have k1' : decide (wpn l1 < 1) = false := by have := (P1.out).1; simp; omega
  have k2' : decide (wpn l2 < 1) = false := by have := (P2.out).1; simp; omega
  have k3' : decide (3 < wpn l1) = false := by have := T1.out; simp; omega
  have k4' : decide (3 < wpn l2) = false := by have := T2.out; simp; omega
  have k5 : (wpn l1 = 0) = False := by have := (P1.out).1; simp; omega
  have k6 : (wpn l2 = 0) = False := by have := (P2.out).1; simp; omega
  have x1 : (s : Int) % 12 = ((s % 12 : Nat) : Int) := by omega
  have x2 : (t : Int) % 12 = ((t % 12 : Nat) : Int) := by omega
  obtain ⟨x, hx⟩ : ∃ x, s % 12 = x := ⟨_, rfl⟩
  obtain ⟨y, hy⟩ : ∃ y, t % 12 = y := ⟨_, rfl⟩
  have HXX := Lib.hid (show x < 12 by omega)
  have HYY := Lib.hid (show y < 12 by omega)
  rw [hx] at x1
  rw [hy] at x2
  clear hX1 hX2 hl1 hl2 hx hy
  go_enter Try.func9, Try.ntmps9
  go_wp2_with fail
  refine (Try.known13 _).mono ?_
  rintro e w1 ⟨rfl, hb1⟩
  have HB := Lib.hid hb1
  clear hb1
  go_wp2_with fail
  refine (Calls.mono (show Calls Try.prog 11 #[.int .i64 16] _ _ from Try.new_good 16 (by decide) (by decide) _) ?_)
  rintro e w2 ⟨v, rfl, d, F, rfl, hd', hb2, hF⟩
  obtain ⟨L, hL⟩ : ∃ L, List.replicate (64 * 16) (0 : UInt8) = L := ⟨_, rfl⟩
  have HLL : Hid (L.length = 64 * 16) := Lib.hid (by rw [← hL]; exact List.length_replicate)
  rw [hL] at hd'
  have HD := Lib.hid hd'
  have HB2 := Lib.hid ((HB.out).trans (hb2.mono (HB.out).size))
  have HF : Hid (∀ b, F b → w.heap.size ≤ b) := Lib.hid (fun b q => Nat.le_trans (HB.out).size (hF b q))
  clear hd' hb2 hF HB hL
  go_wp2_with fail
  refine (Try.size n1 HL1.out (by omega) _).mono ?_
  rintro e w3 ⟨rfl, hb3⟩
  have HD3 := Lib.hid ((HD.out).stay (Chg.below hb3 (fun _ => False)) (fun _ _ => id))
  have HB3 := Lib.hid ((HB2.out).trans (hb3.mono (HB2.out).size))
  clear hb3 HD HB2
  go_wp2_with fail
  refine (Try.size n2 HL2.out (by omega) _).mono ?_
  rintro e w4 ⟨rfl, hb4⟩
  have HD4 := Lib.hid ((HD3.out).stay (Chg.below hb4 (fun _ => False)) (fun _ _ => id))
  have HB4 := Lib.hid ((HB3.out).trans (hb4.mono (HB3.out).size))
  clear hb4 HD3 HB3
  go_wp2_with fail
  have hd5 : DV w4 F d 16 L (dset (fun _ => true) 0 [] L) [] := HD4.out
  have hf5 : x + wpn l1 ≤ 16 := by have := T1.out; have := HXX.out; omega
  have hx5 := (HX1.out).bel HB4.out
  have hp5 := Try.pwrite (Q := []) hd5 (by omega) (by simp) x A n1 c1 l1 HL1.out hn1 hc1 (by omega) hx5 hf5
  clear hd5 hf5 hx5
  with_reducible refine hp5.mono ?_
  clear hp5
  rintro e w5 ⟨rfl, F5, z1, z2⟩
  have HD5 := Lib.hid z1
  obtain ⟨q1, q2⟩ := upd_bel HB4.out z2 HF.out
  have HB5 := Lib.hid q1
  have HF5 := Lib.hid q2
  clear z1 z2 q1 q2 HD4 HB4 HF
  go_wp2_with fail
  have hf6 : y + wpn l2 ≤ 16 := by have := T2.out; have := HYY.out; omega
  have hx6 := (HX2.out).bel HB5.out
  have hq6 : (pgq [] x (wpg l1) (wpn l1)).length ≤ 10000 := by rw [pgq_len]; have := (P1.out).2.1; simp; omega
  have hd6 := HD5.out
  have hp6 := Try.pwrite hd6 (by omega) hq6 y B n2 c2 l2 HL2.out hn2 hc2 (by omega) hx6 hf6
  clear hd6 hf6 hx6 hq6
  with_reducible refine hp6.mono ?_
  clear hp6
  rintro e w6 ⟨rfl, F6, z1, z2⟩
  obtain ⟨q1, q2⟩ := upd_bel HB5.out z2 HF5.out
  have HB6 := Lib.hid q1
  obtain ⟨T, hT⟩ : ∃ T, T = dset (fun _ => true) 0 (pgq (pgq [] x (wpg l1) (wpn l1)) y (wpg l2) (wpn l2)) L := ⟨_, rfl⟩
  rw [← hT] at z1
  have HD6 := Lib.hid z1
  have hf5 : x + wpn l1 ≤ 16 := by have := T1.out; have := HXX.out; omega
  have hf6 : y + wpn l2 ≤ 16 := by have := T2.out; have := HYY.out; omega
  have hl8 : l1.length ≤ 8192 := by have := HL1.out; omega
  have hl9 : l2.length ≤ 8192 := by have := HL2.out; omega
  have HTold := Lib.hid (apart_told HLL.out hl8 hl9 hf5 hf6 T hT)
  clear hf5 hf6 hl8 hl9
  clear z1 z2 q1 q2 HD5 HB5 HF5 hT
  go_wp2_with fail
  have h7 := HD6.out
  have hp7 := Try.pr_any h7 (by omega) (x : Int) (wpn l1 : Int)
  with_reducible refine hp7.mono ?_
  clear h7 hp7
  rintro e w7 ⟨v1, rfl, b1, ⟨X1, m1, rfl⟩, y1⟩
  have HD7 := Lib.hid ((HD6.out).stay (Chg.below b1 (fun _ => False)) (fun _ _ => id))
  have HB7 := Lib.hid ((HB6.out).trans (b1.mono (HB6.out).size))
  have Y1 := Lib.hid y1
  clear b1 y1 HD6 HB6
  go_wp2_with fail
  have h8 := HD7.out
  have hp8 := Try.pr_any h8 (by omega) (y : Int) (wpn l2 : Int)
  with_reducible refine hp8.mono ?_
  clear h8 hp8
  rintro e w8 ⟨v2, rfl, b2, ⟨X2, m2, rfl⟩, y2⟩
  have HB8 := Lib.hid ((HB7.out).trans (b2.mono (HB7.out).size))
  have y1 := (Y1.out) w8 b2
  replace y2 := y2 w8 (Below.refl _ _)
  obtain ⟨t1, t2, t3, t4, t5⟩ := HTold.out
  rw [t1, t2]
  rw [t2] at y2
  have y3 := DataIn.str (c := c1) ((HX1.out).bel HB8.out) HL1.out
  have y4 := DataIn.str (c := c2) ((HX2.out).bel HB8.out) HL2.out
  have HT3 := Lib.hid t3
  have HT4 := Lib.hid t4
  have HT5 := Lib.hid t5
  generalize prc 16 (x : Int) (wpn l1 : Int) T = cp at y1 HT3 HT4 HT5 ⊢
  generalize prl 16 (x : Int) (wpn l1 : Int) T = lp at y1 HT3 HT4 HT5 ⊢
  clear b2 HD7 HB7 t1 t2 t3 t4 t5 HTold Y1
  generalize l2.length = N2 at y2 ⊢
  obtain ⟨N1, hN1⟩ : ∃ N, lp.length = N := ⟨_, rfl⟩
  have HN1 := Lib.hid hN1
  rw [hN1] at y1 ⊢
  clear hN1 x1 x2 d1 d2 d1' d2' h1 h2 hn1 hn2 hc1 hc2
  have u1 : wrap64 ((x : Int) + (wpn l1 : Int)) = ((x + wpn l1 : Nat) : Int) := by have := T1.out; have := HXX.out; unfold wrap64; omega
  have u2 : wrap64 ((y : Int) + (wpn l2 : Int)) = ((y + wpn l2 : Nat) : Int) := by have := T2.out; have := HYY.out; unfold wrap64; omega
  by_cases e1 : x + wpn l1 ≤ y
  · obtain ⟨rfl, hq⟩ := HT3.out (.inl e1)
    rw [hq] at y1
    have g1 : decide ((x : Int) + (wpn l1 : Int) ≤ (y : Int)) = true := by simp; omega
    have g1' : decide (x + wpn l1 ≤ y) = true := by simp; omega
    clear e1 hq
    go_wp2_with fail
    go_ret
    exact ⟨rfl, HB8.out⟩
  · by_cases e2 : y + wpn l2 ≤ x
    · obtain ⟨rfl, hq⟩ := HT3.out (.inr e2)
      rw [hq] at y1
      have g1 : decide ((x : Int) + (wpn l1 : Int) ≤ (y : Int)) = false := by simp; omega
      have g1' : decide (x + wpn l1 ≤ y) = false := by simp; omega
      have g2 : decide ((y : Int) + (wpn l2 : Int) ≤ (x : Int)) = true := by simp; omega
      have g2' : decide (y + wpn l2 ≤ x) = true := by simp; omega
      clear e1 e2 hq
      go_wp2_with fail
      go_ret
      exact ⟨rfl, HB8.out⟩
    · by_cases e3 : x = y
      · by_cases e4 : wpn l1 = wpn l2
        · obtain ⟨rfl, hq⟩ := HT4.out e3 e4
          rw [hq] at y1
          have g1 : decide ((x : Int) + (wpn l1 : Int) ≤ (y : Int)) = false := by simp; omega
          have g1' : decide (x + wpn l1 ≤ y) = false := by simp; omega
          have g2 : decide ((y : Int) + (wpn l2 : Int) ≤ (x : Int)) = false := by simp; omega
          have g2' : decide (y + wpn l2 ≤ x) = false := by simp; omega
          have g3 : ((x : Int) == (y : Int)) = true := by simp; omega
          have g3' : decide ((x : Int) = (y : Int)) = true := by simp; omega
          have g4 : ((wpn l1 : Int) == (wpn l2 : Int)) = true := by simp; omega
          have g4' : decide ((wpn l1 : Int) = (wpn l2 : Int)) = true := by simp; omega
          clear e1 e2 e3 e4 hq
          go_wp2_with fail
          go_ret
          exact ⟨rfl, HB8.out⟩
        · skip
          have g1 : decide ((x : Int) + (wpn l1 : Int) ≤ (y : Int)) = false := by simp; omega
          have g1' : decide (x + wpn l1 ≤ y) = false := by simp; omega
          have g2 : decide ((y : Int) + (wpn l2 : Int) ≤ (x : Int)) = false := by simp; omega
          have g2' : decide (y + wpn l2 ≤ x) = false := by simp; omega
          have g3 : ((x : Int) == (y : Int)) = true := by simp; omega
          have g3' : decide ((x : Int) = (y : Int)) = true := by simp; omega
          have g4 : ((wpn l1 : Int) == (wpn l2 : Int)) = false := by simp; omega
          have g4' : decide ((wpn l1 : Int) = (wpn l2 : Int)) = false := by simp; omega
          clear e1 e2 e3 e4
          rcases HT5.out with rfl | ⟨rfl, hq⟩
          · skip
            go_wp2_with fail
            go_ret
            exact ⟨rfl, HB8.out⟩
          · obtain rfl : N1 = 0 := by rw [← HN1.out, hq]; rfl
            clear hq
            go_wp2_with fail
            go_ret
            exact ⟨rfl, HB8.out⟩
      · skip
        have g1 : decide ((x : Int) + (wpn l1 : Int) ≤ (y : Int)) = false := by simp; omega
        have g1' : decide (x + wpn l1 ≤ y) = false := by simp; omega
        have g2 : decide ((y : Int) + (wpn l2 : Int) ≤ (x : Int)) = false := by simp; omega
        have g2' : decide (y + wpn l2 ≤ x) = false := by simp; omega
        have g3 : ((x : Int) == (y : Int)) = false := by simp; omega
        have g3' : decide ((x : Int) = (y : Int)) = false := by simp; omega
        clear e1 e2 e3
        rcases HT5.out with rfl | ⟨rfl, hq⟩
        · skip
          go_wp2_with fail
          go_ret
          exact ⟨rfl, HB8.out⟩
        · obtain rfl : N1 = 0 := by rw [← HN1.out, hq]; rfl
          clear hq
          go_wp2_with fail
          go_ret
          exact ⟨rfl, HB8.out⟩
end Go.Proofs
end

section
namespace Go.Proofs
open Go.RowKit
set_option maxRecDepth 100000
theorem laid_told {k : Nat} {i : Int} {l L : List UInt8} (hL : L.length = 64 * k) (h8 : l.length ≤ 8192) (h : pcc k i l = 0) :
    prc k i (wpn l) (dset (fun _ => true) 0 (pqq k i l) L) = 0 ∧ prl k i (wpn l) (dset (fun _ => true) 0 (pqq k i l) L) = l := by
  unfold pcc at h
  by_cases hf : 0 ≤ i ∧ i + wpn l ≤ k
  · unfold pqq
    rw [if_pos hf]
    obtain ⟨x, rfl⟩ : ∃ x : Nat, i = x := ⟨i.toNat, by omega⟩
    have hp := (wpn_pos h8).1
    have la := wpg_len h8
    have e1 := dset_pgq [] x (wpg l) L k hL (wpn l) (by omega) (by omega)
    rw [List.take_of_length_le (by omega)] at e1
    have e2 := prc_in (T := dset (fun _ => true) 0 (pgq [] x (wpg l) (wpn l)) L) hp (show x + wpn l ≤ k by omega)
    have e3 : cat (dset (fun _ => true) 0 (pgq [] x (wpg l) (wpn l)) L) x (wpn l) = wpg l := by
      rw [e1]
      exact cat_spl hL la (by omega)
    rw [e3, (unc_wpg h8).1, (unc_wpg h8).2] at e2
    simpa using e2
  · rw [if_neg hf] at h
    exact absurd h (by decide)
theorem pcc_or (k : Nat) (i : Int) (l : List UInt8) : pcc k i l = 0 ∨ pcc k i l = 9 := by
  unfold pcc
  split
  · exact .inl rfl
  · exact .inr rfl
set_option maxHeartbeats 4000000 in
theorem Try.writes (w : World) (A : Option Addr) (n c : Nat) (l : List UInt8) (hl : l.length = n) (hn : n ≤ c) (hc : c ≤ maxLen) (hX : DataIn w A n l) (s : Nat) (i f m0 : Int) (h6 : n ≤ 600) :
    Calls Try.prog 8 #[.slice A n c, .int .u8 s, .int .i64 i, .int .i64 f, .int .i64 m0] w (YesO w) := by
  have HX := Lib.hid hX
  have HL := Lib.hid hl
  have d1 : decide (600 < (n : Int)) = false := by simp; omega
  have d1' : decide (600 < n) = false := by simp; omega
  have x1 : (s : Int) % 20 = ((s % 20 : Nat) : Int) := by omega
  obtain ⟨q, hq⟩ : ∃ q, s % 20 = q := ⟨_, rfl⟩
  obtain ⟨k, hk⟩ : ∃ k, 4 + q = k := ⟨_, rfl⟩
  have u1 : (4 : Int) + (q : Int) = (k : Int) := by omega
  have hk4 : 4 ≤ k := by omega
  have hk24 : k ≤ 24 := by omega
  have HK4 := Lib.hid hk4
  have HK24 := Lib.hid hk24
  have H8 := Lib.hid (show l.length ≤ 8192 by omega)
  rw [hq] at x1
  clear hX hl hq hk hk4 hk24
  go_enter Try.func8, Try.ntmps8
  go_wp2_with fail
  refine (Try.known13 _).mono ?_
  rintro e w1 ⟨rfl, hb1⟩
  have HB := Lib.hid hb1
  clear hb1
  go_wp2_with fail
  have hp := Try.new_good k HK4.out (by have := HK24.out; omega) w1
  with_reducible refine hp.mono ?_
  clear hp x1 u1
  rintro e w2 ⟨v, rfl, d, F, rfl, hd', hb2, hF⟩
  obtain ⟨L, hL⟩ : ∃ L, List.replicate (64 * k) (0 : UInt8) = L := ⟨_, rfl⟩
  have HLL : Hid (L.length = 64 * k) := Lib.hid (by rw [← hL]; exact List.length_replicate)
  rw [hL] at hd'
  have HD := Lib.hid hd'
  have HB2 := Lib.hid ((HB.out).trans (hb2.mono (HB.out).size))
  have HF : Hid (∀ b, F b → w.heap.size ≤ b) := Lib.hid (fun b q => Nat.le_trans (HB.out).size (hF b q))
  clear hd' hb2 hF HB
  go_wp2_with fail
  have hp := Try.rnew_good k HK4.out (by have := HK24.out; omega) w2
  with_reducible refine hp.mono ?_
  clear hp
  rintro e w3 ⟨v, rfl, m, G, rfl, hr', hb3, hG⟩
  rw [hL] at hr'
  have HR := Lib.hid hr'
  have HD3 := Lib.hid ((HD.out).stay (Chg.below hb3 (fun _ => False)) (fun _ _ => id))
  have HB3 := Lib.hid ((HB2.out).trans (hb3.mono (HB2.out).size))
  have HG : Hid (∀ b, G b → w.heap.size ≤ b) := Lib.hid (fun b q => Nat.le_trans (HB2.out).size (hG b q))
  have HDJ : Hid (Disj F G) := Lib.hid (fun b q1 q2 => by
    obtain ⟨lb, cl, tb, ct, vw, ds, hh⟩ := HD.out
    have := hh.lt b q1
    have := hG b q2
    omega)
  clear hr' hb3 hG HD HB2 hL
  go_wp2_with fail
  have hd5 := HD3.out
  have hx5 := (HX.out).bel HB3.out
  have hp := Try.pw_any hd5 (by have := HK24.out; omega) i A n c l HL.out hn hc (by omega) hx5
  with_reducible refine hp.mono ?_
  clear hp hd5 hx5
  rintro e w4 ⟨rfl, F4, z1, z2⟩
  obtain ⟨q1, q2⟩ := upd_bel HB3.out z2 HF.out
  obtain ⟨r1, r2⟩ := (HR.out).other z2 HDJ.out
  have HD4 := Lib.hid z1
  have HR4 := Lib.hid r1
  have HB4 := Lib.hid q1
  have HF4 := Lib.hid q2
  have HDJ4 := Lib.hid r2
  clear z1 z2 q1 q2 r1 r2 HR HD3 HB3 HF HDJ
  go_wp2_with fail
  have hr5 := HR4.out
  have hx5 := (HX.out).bel HB4.out
  have hp := Try.rpw_any hr5 (by have := HK24.out; omega) i A n c l HL.out hn hc (by omega) hx5
  with_reducible refine hp.mono ?_
  clear hp hr5 hx5
  rintro e w5 ⟨rfl, G5, z1, z2⟩
  have hdj5 : Disj G F4 := fun b p1 p2 => (HDJ4.out) b p2 p1
  obtain ⟨q1, q2⟩ := upd_bel HB4.out z2 HG.out
  obtain ⟨r1, r2⟩ := (HD4.out).other z2 hdj5
  have HD5 := Lib.hid r1
  have HR5 := Lib.hid z1
  have HB5 := Lib.hid q1
  clear z1 z2 q1 q2 r1 r2 hdj5 HR4 HD4 HB4 HF4 HDJ4 HG
  have HT8 := Lib.hid (fun h => laid_told (i := i) (L := L) HLL.out H8.out h)
  have HPC := Lib.hid (pcc_or k i l)
  have HQL := Lib.hid (pqq_len k i l H8.out)
  generalize pqq k i l = Q at HD5 HR5 HT8 HQL
  obtain ⟨T, hT⟩ : ∃ T, dset (fun _ => true) 0 Q L = T := ⟨_, rfl⟩
  rw [hT] at HD5 HT8
  have HT := Lib.hid hT
  clear hT
  generalize pcc k i l = pc at HT8 HPC ⊢
  go_upto_region 12 with fail
  obtain ⟨lb, cl, tb, ct, vw, ds, hdw⟩ := HD5.out
  obtain ⟨db, dc, Aw, wc, es, hrw⟩ := HR5.out
  obtain ⟨Ad, wd, rfl⟩ := own_slice hdw.ow
  have HDW := Lib.hid hdw
  have HRW := Lib.hid hrw
  have hml := hrw.lt m hrw.fm
  have hdl := hdw.lt d hdw.fd
  have hdc2 : w5.cell? ⟨d, 2, none⟩ = some (.slice Ad Q.length wd) := hdw.c2
  have hrc1 : w5.cell? ⟨m, 1, none⟩ = some (.slice Aw Q.length wc) := hrw.c1
  clear hdw hrw
  refine wp_region_noPanic ?_
  refine wp_region_held_drew (S := (fun W => W.cell? ⟨m, 1, none⟩ = some (.slice Aw Q.length wc))) (by kernel_rfl) ?_ (fun hHeld => ?_)
  · exact hrc1
  refine wpAnyH_take (i := 0) (oi := { dst := some 53, op := Op.move (Operand.tmp 16), type := 25, pos := "law.go:88", after := #[], guard := none }) (v := ?_) rfl (by kernel_rfl) (by kernel_rfl) (by kernel_rfl) (fun _ _ _ h => h) (Or.inl ⟨by rfl, ?_⟩) (by assumption) ?_
  rotate_left
  · (intro w hSw; (try dsimp only at hSw); go_simp; try with_reducible rfl)
  try simp only [Act.put, List.setIfInBounds_toArray, List.set_cons_zero, List.set_cons_succ]
  refine wpAnyH_take (i := 1) (oi := { dst := some 54, op := Op.move (Operand.tmp 17), type := 3, pos := "law.go:88", after := #[], guard := none }) (v := ?_) rfl (by kernel_rfl) (by kernel_rfl) (by kernel_rfl) (fun _ _ _ h => h) (Or.inl ⟨by rfl, ?_⟩) (by assumption) ?_
  rotate_left
  · (intro w hSw; (try dsimp only at hSw); go_simp; try with_reducible rfl)
  try simp only [Act.put, List.setIfInBounds_toArray, List.set_cons_zero, List.set_cons_succ]
  refine wpAnyH_take (i := 2) (oi := { dst := some 55, op := Op.binOp BinOp.neq 3 (Operand.tmp 53) (Operand.tmp 54) 3, type := 4, pos := "law.go:88", after := #[{ on := 0, ground := Ground.data }, { on := 1, ground := Ground.data }], guard := none }) (v := ?_) rfl (by kernel_rfl) (by kernel_rfl) (by kernel_rfl) (fun _ _ _ h => h) (Or.inl ⟨by rfl, ?_⟩) (by assumption) ?_
  rotate_left
  · (intro w hSw; (try dsimp only at hSw); go_simp; try with_reducible rfl)
  try simp only [Act.put, List.setIfInBounds_toArray, List.set_cons_zero, List.set_cons_succ]
  refine wpAnyH_take (i := 3) (oi := { dst := some 56, op := Op.move (Operand.tmp 55), type := 4, pos := "law.go:88", after := #[{ on := 2, ground := Ground.data }], guard := none }) (v := ?_) rfl (by kernel_rfl) (by kernel_rfl) (by kernel_rfl) (fun _ _ _ h => h) (Or.inl ⟨by rfl, ?_⟩) (by assumption) ?_
  rotate_left
  · (intro w hSw; (try dsimp only at hSw); go_simp; try with_reducible rfl)
  try simp only [Act.put, List.setIfInBounds_toArray, List.set_cons_zero, List.set_cons_succ]
  refine wpAnyH_take (i := 4) (oi := { dst := some 57, op := Op.move (Operand.tmp 12), type := 24, pos := "law.go:88", after := #[{ on := 3, ground := Ground.guard }], guard := some (3, false) }) (v := ?_) rfl (by kernel_rfl) (by kernel_rfl) (by kernel_rfl) (fun _ _ _ h => h) (Or.inl ⟨by rfl, ?_⟩) (by assumption) ?_
  rotate_left
  · (intro w hSw; (try dsimp only at hSw); go_simp; try with_reducible rfl)
  try simp only [Act.put, List.setIfInBounds_toArray, List.set_cons_zero, List.set_cons_succ]
  refine wpAnyH_take (i := 7) (oi := { dst := some 60, op := Op.move (Operand.tmp 14), type := 28, pos := "law.go:88", after := #[{ on := 3, ground := Ground.guard }], guard := some (3, false) }) (v := ?_) rfl (by kernel_rfl) (by kernel_rfl) (by kernel_rfl) (fun _ _ _ h => h) (Or.inl ⟨by rfl, ?_⟩) (by assumption) ?_
  rotate_left
  · (intro w hSw; (try dsimp only at hSw); go_simp; try with_reducible rfl)
  try simp only [Act.put, List.setIfInBounds_toArray, List.set_cons_zero, List.set_cons_succ]
  refine wpAnyH_ready (rs := [5]) (by kernel_rfl) (by simp) ?_
  refine AllReadyH.cons (o := { dst := some 58, op := Op.call { callee := Callee.value (Operand.func 26), args := #[Operand.tmp 57], argTypes := #[24] }, type := 31, pos := "law.go:88", after := #[{ on := 4, ground := Ground.data }, { on := 3, ground := Ground.chain }, { on := 3, ground := Ground.guard }], guard := some (3, false) }) rfl (fun K hK => ?_) ?_
  · skip
    refine step_want (by rfl) ?_
    go_simp
    refine (Try.bytes ((HDW.out).keep (Chg.refl w5 (fun _ => False)).drew (fun _ _ => id))).mono ?_
    rintro e w6 ⟨b1, q1, rfl, s1, s2, s3, s4⟩
    dsimp only
    have k1 : Chg w5 w6 (fun _ => False) := (Chg.below s4 _).ofDrew
    have y1 : w6.cell? ⟨m, 1, none⟩ = some (.slice Aw Q.length wc) := (World.cell?_of_block (w := w5) (a := ⟨m, 1, none⟩) (k1.block m hml id)).trans hrc1
    have x1 := s3.str (64 * k) (HDW.out).Tl q1
    have B1 := Lib.hid s3
    have K1 := Lib.hid k1
    clear s1 s2 s3 s4 k1
    refine hK.out _ _ ?_ (fun hHeld => ?_)
    · exact y1
    clear hK K
    try simp only [Act.put, List.setIfInBounds_toArray, List.set_cons_zero, List.set_cons_succ]
    refine wpAnyH_ready (rs := [6, 8]) (by kernel_rfl) (by simp) ?_
    refine AllReadyH.cons (o := { dst := some 59, op := Op.convert 31 9 (Operand.tmp 58), type := 9, pos := "law.go:88", after := #[{ on := 5, ground := Ground.data }, { on := 3, ground := Ground.guard }], guard := some (3, false) }) rfl (fun K hK => ?_) ?_
    · skip
      go_simp
      refine hK.out _ _ ?_ (fun hHeld => ?_)
      · exact y1
      clear hK K
      try simp only [Act.put, List.setIfInBounds_toArray, List.set_cons_zero, List.set_cons_succ]
      refine wpAnyH_ready (rs := [8]) (by kernel_rfl) (by simp) ?_
      refine AllReadyH.cons (o := { dst := some 61, op := Op.call { callee := Callee.value (Operand.func 32), args := #[Operand.tmp 60], argTypes := #[28] }, type := 31, pos := "law.go:88", after := #[{ on := 7, ground := Ground.data }, { on := 5, ground := Ground.chain }, { on := 3, ground := Ground.guard }], guard := some (3, false) }) rfl (fun K hK => ?_) ?_
      · skip
        refine step_want (by rfl) ?_
        go_simp
        refine (Try.rbytes ((HRW.out).keep (K1.out) (fun _ _ => id)) (by have := HQL.out; omega)).mono ?_
        rw [HT.out]
        rintro e w7 ⟨b2, q2, rfl, s1, s2, s3, s4⟩
        dsimp only
        have k2 : Chg w5 w7 (fun _ => False) := (K1.out).trans (Chg.below s4 _)
        have y2 : w7.cell? ⟨m, 1, none⟩ = some (.slice Aw Q.length wc) := (World.cell?_of_block (w := w5) (a := ⟨m, 1, none⟩) (k2.block m hml id)).trans hrc1
        have z2 : w7.cell? ⟨d, 2, none⟩ = some (.slice Ad Q.length wd) := (World.cell?_of_block (w := w5) (a := ⟨d, 2, none⟩) (k2.block d hdl id)).trans hdc2
        have x12 := ((B1.out).congr (s4.block b1 (B1.out).lt)).str (64 * k) (HDW.out).Tl q1
        have x2 := s3.str (64 * k) (HDW.out).Tl q2
        have K2 : Hid (Chg w5 w7 (fun _ => False)) := Lib.hid k2
        clear s1 s2 s3 s4 k2
        refine hK.out _ _ ?_ (fun hHeld => ?_)
        · exact y2
        clear hK K
        try simp only [Act.put, List.setIfInBounds_toArray, List.set_cons_zero, List.set_cons_succ]
        refine wpAnyH_ready (rs := [9]) (by kernel_rfl) (by simp) ?_
        refine AllReadyH.cons (o := { dst := some 62, op := Op.convert 31 9 (Operand.tmp 61), type := 9, pos := "law.go:88", after := #[{ on := 8, ground := Ground.data }, { on := 3, ground := Ground.guard }], guard := some (3, false) }) rfl (fun K hK => ?_) ?_
        · skip
          go_simp
          refine hK.out _ _ ?_ (fun hHeld => ?_)
          · exact y2
          clear hK K
          try simp only [Act.put, List.setIfInBounds_toArray, List.set_cons_zero, List.set_cons_succ]
          refine wpAnyH_take (i := 10) (oi := { dst := some 63, op := Op.binOp BinOp.neq 9 (Operand.tmp 59) (Operand.tmp 62) 9, type := 4, pos := "law.go:88", after := #[{ on := 6, ground := Ground.data }, { on := 9, ground := Ground.data }, { on := 3, ground := Ground.guard }], guard := some (3, false) }) (v := ?_) rfl (by kernel_rfl) (by kernel_rfl) (by kernel_rfl) (fun _ _ _ h => h) (Or.inl ⟨by rfl, ?_⟩) (by assumption) ?_
          rotate_left
          · (intro w hSw; (try dsimp only at hSw); go_simp; try with_reducible rfl)
          try simp only [Act.put, List.setIfInBounds_toArray, List.set_cons_zero, List.set_cons_succ]
          refine wpAnyH_take (i := 11) (oi := { dst := some 64, op := Op.pick (Operand.tmp 56) (Operand.const (Value.bool true)) (Operand.tmp 63), type := 4, pos := "law.go:88", after := #[{ on := 3, ground := Ground.data }, { on := 10, ground := Ground.data }], guard := none }) (v := ?_) rfl (by kernel_rfl) (by kernel_rfl) (by kernel_rfl) (fun _ _ _ h => h) (Or.inl ⟨by rfl, ?_⟩) (by assumption) ?_
          rotate_left
          · (intro w hSw; (try dsimp only at hSw); go_simp; try with_reducible rfl)
          try simp only [Act.put, List.setIfInBounds_toArray, List.set_cons_zero, List.set_cons_succ]
          refine wpAnyH_take (i := 12) (oi := { dst := some 65, op := Op.move (Operand.tmp 64), type := 4, pos := "law.go:88", after := #[{ on := 11, ground := Ground.data }, { on := 8, ground := Ground.chain }], guard := none }) (v := ?_) rfl (by kernel_rfl) (by kernel_rfl) (by kernel_rfl) (fun _ _ _ h => h) (Or.inl ⟨by rfl, ?_⟩) (by assumption) ?_
          rotate_left
          · (intro w hSw; (try dsimp only at hSw); go_simp; try with_reducible rfl)
          try simp only [Act.put, List.setIfInBounds_toArray, List.set_cons_zero, List.set_cons_succ]
          refine wpAnyH_take (i := 13) (oi := { dst := some 66, op := Op.move (Operand.tmp 12), type := 24, pos := "law.go:88", after := #[{ on := 12, ground := Ground.guard }], guard := some (12, false) }) (v := ?_) rfl (by kernel_rfl) (by kernel_rfl) (by kernel_rfl) (fun _ _ _ h => h) (Or.inl ⟨by rfl, ?_⟩) (by assumption) ?_
          rotate_left
          · (intro w hSw; (try dsimp only at hSw); go_simp; try with_reducible rfl)
          try simp only [Act.put, List.setIfInBounds_toArray, List.set_cons_zero, List.set_cons_succ]
          refine wpAnyH_take (i := 15) (oi := { dst := some 68, op := Op.move (Operand.tmp 14), type := 28, pos := "law.go:88", after := #[{ on := 12, ground := Ground.guard }], guard := some (12, false) }) (v := ?_) rfl (by kernel_rfl) (by kernel_rfl) (by kernel_rfl) (fun _ _ _ h => h) (Or.inl ⟨by rfl, ?_⟩) (by assumption) ?_
          rotate_left
          · (intro w hSw; (try dsimp only at hSw); go_simp; try with_reducible rfl)
          try simp only [Act.put, List.setIfInBounds_toArray, List.set_cons_zero, List.set_cons_succ]
          refine wpAnyH_take (i := 16) (oi := { dst := some 69, op := Op.nilCheck (Operand.tmp 68), type := 0, pos := "law.go:88", after := #[{ on := 15, ground := Ground.data }, { on := 12, ground := Ground.guard }], guard := some (12, false) }) (v := ?_) rfl (by kernel_rfl) (by kernel_rfl) (by kernel_rfl) (fun _ _ _ h => h) (Or.inl ⟨by rfl, ?_⟩) (by assumption) ?_
          rotate_left
          · (intro w hSw; (try dsimp only at hSw); go_simp; try with_reducible rfl)
          try simp only [Act.put, List.setIfInBounds_toArray, List.set_cons_zero, List.set_cons_succ]
          refine wpAnyH_take (i := 17) (oi := { dst := some 70, op := Op.fieldAddr 60 (Operand.tmp 69) 1, type := 0, pos := "law.go:88", after := #[{ on := 16, ground := Ground.data }, { on := 12, ground := Ground.guard }], guard := some (12, false) }) (v := ?_) rfl (by kernel_rfl) (by kernel_rfl) (by kernel_rfl) (fun _ _ _ h => h) (Or.inl ⟨by rfl, ?_⟩) (by assumption) ?_
          rotate_left
          · (intro w hSw; (try dsimp only at hSw); go_simp; try with_reducible rfl)
          try simp only [Act.put, List.setIfInBounds_toArray, List.set_cons_zero, List.set_cons_succ]
          refine wpAnyH_take (i := 18) (oi := { dst := some 71, op := Op.load 58 (Operand.tmp 70), type := 58, pos := "law.go:88", after := #[{ on := 17, ground := Ground.data }, { on := 12, ground := Ground.guard }], guard := some (12, false) }) (v := ?_) rfl (by kernel_rfl) (by kernel_rfl) (by kernel_rfl) (fun _ _ _ h => h) (Or.inl ⟨by rfl, ?_⟩) (by assumption) ?_
          rotate_left
          · (intro w hSw; (try dsimp only at hSw); go_simp; try with_reducible rfl)
          try simp only [Act.put, List.setIfInBounds_toArray, List.set_cons_zero, List.set_cons_succ]
          refine wpAnyH_take (i := 19) (oi := { dst := some 72, op := Op.call { callee := Callee.builtin Builtin.len, args := #[Operand.tmp 71], argTypes := #[58] }, type := 3, pos := "law.go:88", after := #[{ on := 18, ground := Ground.data }, { on := 12, ground := Ground.guard }], guard := some (12, false) }) (v := ?_) rfl (by kernel_rfl) (by kernel_rfl) (by kernel_rfl) (fun _ _ _ h => h) (Or.inl ⟨by rfl, ?_⟩) (by assumption) ?_
          rotate_left
          · (intro w hSw; (try dsimp only at hSw); go_simp; try with_reducible rfl)
          try simp only [Act.put, List.setIfInBounds_toArray, List.set_cons_zero, List.set_cons_succ]
          refine wpAnyH_ready (rs := [14]) (by kernel_rfl) (by simp) ?_
          refine AllReadyH.cons (o := { dst := some 67, op := Op.call { callee := Callee.value (Operand.func 27), args := #[Operand.tmp 66], argTypes := #[24] }, type := 3, pos := "law.go:88", after := #[{ on := 13, ground := Ground.data }, { on := 12, ground := Ground.chain }, { on := 12, ground := Ground.guard }], guard := some (12, false) }) rfl (fun K hK => ?_) ?_
          · skip
            refine step_want (by rfl) ?_
            go_simp
            refine (Try.waits _ _ _ _ _ z2).mono ?_
            rintro e w' ⟨rfl, rfl⟩
            dsimp only
            refine hK.out _ _ ?_ (fun hHeld => ?_)
            · exact y2
            clear hK K
            try simp only [Act.put, List.setIfInBounds_toArray, List.set_cons_zero, List.set_cons_succ]
            refine wpAnyH_take (i := 20) (oi := { dst := some 73, op := Op.binOp BinOp.neq 3 (Operand.tmp 67) (Operand.tmp 72) 3, type := 4, pos := "law.go:88", after := #[{ on := 14, ground := Ground.data }, { on := 19, ground := Ground.data }, { on := 12, ground := Ground.guard }], guard := some (12, false) }) (v := ?_) rfl (by kernel_rfl) (by kernel_rfl) (by kernel_rfl) (fun _ _ _ h => h) (Or.inl ⟨by rfl, ?_⟩) (by assumption) ?_
            rotate_left
            · (intro w hSw; (try dsimp only at hSw); go_simp; try with_reducible rfl)
            try simp only [Act.put, List.setIfInBounds_toArray, List.set_cons_zero, List.set_cons_succ]
            refine wpAnyH_take (i := 21) (oi := { dst := some 74, op := Op.pick (Operand.tmp 65) (Operand.const (Value.bool true)) (Operand.tmp 73), type := 4, pos := "law.go:88", after := #[{ on := 12, ground := Ground.data }, { on := 20, ground := Ground.data }], guard := none }) (v := ?_) rfl (by kernel_rfl) (by kernel_rfl) (by kernel_rfl) (fun _ _ _ h => h) (Or.inl ⟨by rfl, ?_⟩) (by assumption) ?_
            rotate_left
            · (intro w hSw; (try dsimp only at hSw); go_simp; try with_reducible rfl)
            try simp only [Act.put, List.setIfInBounds_toArray, List.set_cons_zero, List.set_cons_succ]
            refine wpAnyH_done (by kernel_rfl) ?_ _
            refine NoPanic.normal ?_
            clear x1 x12 x2 y1 y2 z2
            have HB7 : Hid (Below w.heap.size w w7) := Lib.hid ((HB5.out).trans ((show Below w5.heap.size w5 w7 from ⟨(K2.out).os, (K2.out).tape, (K2.out).output, (K2.out).size, fun b hb => (K2.out).block b hb id⟩).mono (HB5.out).size))
            have HD7 := Lib.hid ((HD5.out).stay K2.out (fun _ _ => id))
            have HR7 := Lib.hid ((HR5.out).stay K2.out (fun _ _ => id))
            clear K1 K2 B1 HDW HRW HD5 HR5 hml hdl hdc2 hrc1 HB5
            go_wp2_with fail
            have h8 := HD7.out
            have hp := Try.pr_any h8 (by have := HK24.out; omega) f m0
            with_reducible refine hp.mono ?_
            clear hp h8
            rintro e w8 ⟨v1, rfl, b1, ⟨X1, m1, rfl⟩, y1⟩
            have HD8 := Lib.hid ((HD7.out).stay (Chg.below b1 (fun _ => False)) (fun _ _ => id))
            have HR8 := Lib.hid ((HR7.out).stay (Chg.below b1 (fun _ => False)) (fun _ _ => id))
            have HB8 := Lib.hid ((HB7.out).trans (b1.mono (HB7.out).size))
            have Y1 := Lib.hid y1
            clear b1 y1 HD7 HR7 HB7
            go_wp2_with fail
            have h8 := HR8.out
            have hp := Try.rpr_any h8 (by have := HK24.out; omega) (by have := HQL.out; omega) f m0 HT.out
            with_reducible refine hp.mono ?_
            clear hp h8
            rintro e w9 ⟨v2, rfl, b2, ⟨X2, m2, rfl⟩, y2⟩
            have HD9 := Lib.hid ((HD8.out).stay (Chg.below b2 (fun _ => False)) (fun _ _ => id))
            have HB9 := Lib.hid ((HB8.out).trans (b2.mono (HB8.out).size))
            have y1 := (Y1.out) w9 b2
            replace y2 := y2 w9 (Below.refl _ _)
            generalize prc k f m0 T = cr
            generalize prl k f m0 T = lr at y1 y2 ⊢
            generalize lr.length = N1 at y1 y2 ⊢
            clear b2 Y1 HD8 HR8 HB8
            rcases HPC.out with rfl | rfl
            · go_wp2_with fail
              clear y1 y2
              refine (Try.size n HL.out (by have := HL.out; have := H8.out; omega) _).mono ?_
              rintro e w10 ⟨rfl, hb⟩
              have HD10 := Lib.hid ((HD9.out).stay (Chg.below hb (fun _ => False)) (fun _ _ => id))
              have HB10 := Lib.hid ((HB9.out).trans (hb.mono (HB9.out).size))
              clear hb HD9 HB9
              go_wp2_with fail
              have h8 := HD10.out
              have hp := Try.pr_any h8 (by have := HK24.out; omega) i (wpn l)
              with_reducible refine hp.mono ?_
              clear hp h8
              rintro e w11 ⟨v3, rfl, b3, ⟨X3, m3, rfl⟩, y3⟩
              obtain ⟨t1, t2⟩ := HT8.out (by simp)
              rw [t1]
              rw [t2] at y3 ⊢
              have HB11 := Lib.hid ((HB10.out).trans (b3.mono (HB10.out).size))
              replace y3 := y3 w11 (Below.refl _ _)
              have y4 := DataIn.str (c := c) ((HX.out).bel HB11.out) HL.out
              generalize l.length = N3 at y3 ⊢
              clear b3 HB10 HD10 t1 t2 hn hc h6 d1 d1'
              go_wp2_with fail
              go_ret
              exact ⟨rfl, HB11.out⟩
            · go_wp2_with fail
              go_ret
              exact ⟨rfl, HB9.out⟩
          exact AllReadyH.nil
        exact AllReadyH.nil
      exact AllReadyH.nil
    refine AllReadyH.cons (o := { dst := some 61, op := Op.call { callee := Callee.value (Operand.func 32), args := #[Operand.tmp 60], argTypes := #[28] }, type := 31, pos := "law.go:88", after := #[{ on := 7, ground := Ground.data }, { on := 5, ground := Ground.chain }, { on := 3, ground := Ground.guard }], guard := some (3, false) }) rfl (fun K hK => ?_) ?_
    · skip
      refine step_want (by rfl) ?_
      go_simp
      refine (Try.rbytes ((HRW.out).keep (K1.out) (fun _ _ => id)) (by have := HQL.out; omega)).mono ?_
      rw [HT.out]
      rintro e w7 ⟨b2, q2, rfl, s1, s2, s3, s4⟩
      dsimp only
      have k2 : Chg w5 w7 (fun _ => False) := (K1.out).trans (Chg.below s4 _)
      have y2 : w7.cell? ⟨m, 1, none⟩ = some (.slice Aw Q.length wc) := (World.cell?_of_block (w := w5) (a := ⟨m, 1, none⟩) (k2.block m hml id)).trans hrc1
      have z2 : w7.cell? ⟨d, 2, none⟩ = some (.slice Ad Q.length wd) := (World.cell?_of_block (w := w5) (a := ⟨d, 2, none⟩) (k2.block d hdl id)).trans hdc2
      have x12 := ((B1.out).congr (s4.block b1 (B1.out).lt)).str (64 * k) (HDW.out).Tl q1
      have x2 := s3.str (64 * k) (HDW.out).Tl q2
      have K2 : Hid (Chg w5 w7 (fun _ => False)) := Lib.hid k2
      clear s1 s2 s3 s4 k2
      refine hK.out _ _ ?_ (fun hHeld => ?_)
      · exact y2
      clear hK K
      try simp only [Act.put, List.setIfInBounds_toArray, List.set_cons_zero, List.set_cons_succ]
      refine wpAnyH_ready (rs := [6, 9]) (by kernel_rfl) (by simp) ?_
      refine AllReadyH.cons (o := { dst := some 59, op := Op.convert 31 9 (Operand.tmp 58), type := 9, pos := "law.go:88", after := #[{ on := 5, ground := Ground.data }, { on := 3, ground := Ground.guard }], guard := some (3, false) }) rfl (fun K hK => ?_) ?_
      · skip
        go_simp
        refine hK.out _ _ ?_ (fun hHeld => ?_)
        · exact y2
        clear hK K
        try simp only [Act.put, List.setIfInBounds_toArray, List.set_cons_zero, List.set_cons_succ]
        refine wpAnyH_ready (rs := [9]) (by kernel_rfl) (by simp) ?_
        refine AllReadyH.cons (o := { dst := some 62, op := Op.convert 31 9 (Operand.tmp 61), type := 9, pos := "law.go:88", after := #[{ on := 8, ground := Ground.data }, { on := 3, ground := Ground.guard }], guard := some (3, false) }) rfl (fun K hK => ?_) ?_
        · skip
          go_simp
          refine hK.out _ _ ?_ (fun hHeld => ?_)
          · exact y2
          clear hK K
          try simp only [Act.put, List.setIfInBounds_toArray, List.set_cons_zero, List.set_cons_succ]
          refine wpAnyH_take (i := 10) (oi := { dst := some 63, op := Op.binOp BinOp.neq 9 (Operand.tmp 59) (Operand.tmp 62) 9, type := 4, pos := "law.go:88", after := #[{ on := 6, ground := Ground.data }, { on := 9, ground := Ground.data }, { on := 3, ground := Ground.guard }], guard := some (3, false) }) (v := ?_) rfl (by kernel_rfl) (by kernel_rfl) (by kernel_rfl) (fun _ _ _ h => h) (Or.inl ⟨by rfl, ?_⟩) (by assumption) ?_
          rotate_left
          · (intro w hSw; (try dsimp only at hSw); go_simp; try with_reducible rfl)
          try simp only [Act.put, List.setIfInBounds_toArray, List.set_cons_zero, List.set_cons_succ]
          refine wpAnyH_take (i := 11) (oi := { dst := some 64, op := Op.pick (Operand.tmp 56) (Operand.const (Value.bool true)) (Operand.tmp 63), type := 4, pos := "law.go:88", after := #[{ on := 3, ground := Ground.data }, { on := 10, ground := Ground.data }], guard := none }) (v := ?_) rfl (by kernel_rfl) (by kernel_rfl) (by kernel_rfl) (fun _ _ _ h => h) (Or.inl ⟨by rfl, ?_⟩) (by assumption) ?_
          rotate_left
          · (intro w hSw; (try dsimp only at hSw); go_simp; try with_reducible rfl)
          try simp only [Act.put, List.setIfInBounds_toArray, List.set_cons_zero, List.set_cons_succ]
          refine wpAnyH_take (i := 12) (oi := { dst := some 65, op := Op.move (Operand.tmp 64), type := 4, pos := "law.go:88", after := #[{ on := 11, ground := Ground.data }, { on := 8, ground := Ground.chain }], guard := none }) (v := ?_) rfl (by kernel_rfl) (by kernel_rfl) (by kernel_rfl) (fun _ _ _ h => h) (Or.inl ⟨by rfl, ?_⟩) (by assumption) ?_
          rotate_left
          · (intro w hSw; (try dsimp only at hSw); go_simp; try with_reducible rfl)
          try simp only [Act.put, List.setIfInBounds_toArray, List.set_cons_zero, List.set_cons_succ]
          refine wpAnyH_take (i := 13) (oi := { dst := some 66, op := Op.move (Operand.tmp 12), type := 24, pos := "law.go:88", after := #[{ on := 12, ground := Ground.guard }], guard := some (12, false) }) (v := ?_) rfl (by kernel_rfl) (by kernel_rfl) (by kernel_rfl) (fun _ _ _ h => h) (Or.inl ⟨by rfl, ?_⟩) (by assumption) ?_
          rotate_left
          · (intro w hSw; (try dsimp only at hSw); go_simp; try with_reducible rfl)
          try simp only [Act.put, List.setIfInBounds_toArray, List.set_cons_zero, List.set_cons_succ]
          refine wpAnyH_take (i := 15) (oi := { dst := some 68, op := Op.move (Operand.tmp 14), type := 28, pos := "law.go:88", after := #[{ on := 12, ground := Ground.guard }], guard := some (12, false) }) (v := ?_) rfl (by kernel_rfl) (by kernel_rfl) (by kernel_rfl) (fun _ _ _ h => h) (Or.inl ⟨by rfl, ?_⟩) (by assumption) ?_
          rotate_left
          · (intro w hSw; (try dsimp only at hSw); go_simp; try with_reducible rfl)
          try simp only [Act.put, List.setIfInBounds_toArray, List.set_cons_zero, List.set_cons_succ]
          refine wpAnyH_take (i := 16) (oi := { dst := some 69, op := Op.nilCheck (Operand.tmp 68), type := 0, pos := "law.go:88", after := #[{ on := 15, ground := Ground.data }, { on := 12, ground := Ground.guard }], guard := some (12, false) }) (v := ?_) rfl (by kernel_rfl) (by kernel_rfl) (by kernel_rfl) (fun _ _ _ h => h) (Or.inl ⟨by rfl, ?_⟩) (by assumption) ?_
          rotate_left
          · (intro w hSw; (try dsimp only at hSw); go_simp; try with_reducible rfl)
          try simp only [Act.put, List.setIfInBounds_toArray, List.set_cons_zero, List.set_cons_succ]
          refine wpAnyH_take (i := 17) (oi := { dst := some 70, op := Op.fieldAddr 60 (Operand.tmp 69) 1, type := 0, pos := "law.go:88", after := #[{ on := 16, ground := Ground.data }, { on := 12, ground := Ground.guard }], guard := some (12, false) }) (v := ?_) rfl (by kernel_rfl) (by kernel_rfl) (by kernel_rfl) (fun _ _ _ h => h) (Or.inl ⟨by rfl, ?_⟩) (by assumption) ?_
          rotate_left
          · (intro w hSw; (try dsimp only at hSw); go_simp; try with_reducible rfl)
          try simp only [Act.put, List.setIfInBounds_toArray, List.set_cons_zero, List.set_cons_succ]
          refine wpAnyH_take (i := 18) (oi := { dst := some 71, op := Op.load 58 (Operand.tmp 70), type := 58, pos := "law.go:88", after := #[{ on := 17, ground := Ground.data }, { on := 12, ground := Ground.guard }], guard := some (12, false) }) (v := ?_) rfl (by kernel_rfl) (by kernel_rfl) (by kernel_rfl) (fun _ _ _ h => h) (Or.inl ⟨by rfl, ?_⟩) (by assumption) ?_
          rotate_left
          · (intro w hSw; (try dsimp only at hSw); go_simp; try with_reducible rfl)
          try simp only [Act.put, List.setIfInBounds_toArray, List.set_cons_zero, List.set_cons_succ]
          refine wpAnyH_take (i := 19) (oi := { dst := some 72, op := Op.call { callee := Callee.builtin Builtin.len, args := #[Operand.tmp 71], argTypes := #[58] }, type := 3, pos := "law.go:88", after := #[{ on := 18, ground := Ground.data }, { on := 12, ground := Ground.guard }], guard := some (12, false) }) (v := ?_) rfl (by kernel_rfl) (by kernel_rfl) (by kernel_rfl) (fun _ _ _ h => h) (Or.inl ⟨by rfl, ?_⟩) (by assumption) ?_
          rotate_left
          · (intro w hSw; (try dsimp only at hSw); go_simp; try with_reducible rfl)
          try simp only [Act.put, List.setIfInBounds_toArray, List.set_cons_zero, List.set_cons_succ]
          refine wpAnyH_ready (rs := [14]) (by kernel_rfl) (by simp) ?_
          refine AllReadyH.cons (o := { dst := some 67, op := Op.call { callee := Callee.value (Operand.func 27), args := #[Operand.tmp 66], argTypes := #[24] }, type := 3, pos := "law.go:88", after := #[{ on := 13, ground := Ground.data }, { on := 12, ground := Ground.chain }, { on := 12, ground := Ground.guard }], guard := some (12, false) }) rfl (fun K hK => ?_) ?_
          · skip
            refine step_want (by rfl) ?_
            go_simp
            refine (Try.waits _ _ _ _ _ z2).mono ?_
            rintro e w' ⟨rfl, rfl⟩
            dsimp only
            refine hK.out _ _ ?_ (fun hHeld => ?_)
            · exact y2
            clear hK K
            try simp only [Act.put, List.setIfInBounds_toArray, List.set_cons_zero, List.set_cons_succ]
            refine wpAnyH_take (i := 20) (oi := { dst := some 73, op := Op.binOp BinOp.neq 3 (Operand.tmp 67) (Operand.tmp 72) 3, type := 4, pos := "law.go:88", after := #[{ on := 14, ground := Ground.data }, { on := 19, ground := Ground.data }, { on := 12, ground := Ground.guard }], guard := some (12, false) }) (v := ?_) rfl (by kernel_rfl) (by kernel_rfl) (by kernel_rfl) (fun _ _ _ h => h) (Or.inl ⟨by rfl, ?_⟩) (by assumption) ?_
            rotate_left
            · (intro w hSw; (try dsimp only at hSw); go_simp; try with_reducible rfl)
            try simp only [Act.put, List.setIfInBounds_toArray, List.set_cons_zero, List.set_cons_succ]
            refine wpAnyH_take (i := 21) (oi := { dst := some 74, op := Op.pick (Operand.tmp 65) (Operand.const (Value.bool true)) (Operand.tmp 73), type := 4, pos := "law.go:88", after := #[{ on := 12, ground := Ground.data }, { on := 20, ground := Ground.data }], guard := none }) (v := ?_) rfl (by kernel_rfl) (by kernel_rfl) (by kernel_rfl) (fun _ _ _ h => h) (Or.inl ⟨by rfl, ?_⟩) (by assumption) ?_
            rotate_left
            · (intro w hSw; (try dsimp only at hSw); go_simp; try with_reducible rfl)
            try simp only [Act.put, List.setIfInBounds_toArray, List.set_cons_zero, List.set_cons_succ]
            refine wpAnyH_done (by kernel_rfl) ?_ _
            refine NoPanic.normal ?_
            clear x1 x12 x2 y1 y2 z2
            have HB7 : Hid (Below w.heap.size w w7) := Lib.hid ((HB5.out).trans ((show Below w5.heap.size w5 w7 from ⟨(K2.out).os, (K2.out).tape, (K2.out).output, (K2.out).size, fun b hb => (K2.out).block b hb id⟩).mono (HB5.out).size))
            have HD7 := Lib.hid ((HD5.out).stay K2.out (fun _ _ => id))
            have HR7 := Lib.hid ((HR5.out).stay K2.out (fun _ _ => id))
            clear K1 K2 B1 HDW HRW HD5 HR5 hml hdl hdc2 hrc1 HB5
            go_wp2_with fail
            have h8 := HD7.out
            have hp := Try.pr_any h8 (by have := HK24.out; omega) f m0
            with_reducible refine hp.mono ?_
            clear hp h8
            rintro e w8 ⟨v1, rfl, b1, ⟨X1, m1, rfl⟩, y1⟩
            have HD8 := Lib.hid ((HD7.out).stay (Chg.below b1 (fun _ => False)) (fun _ _ => id))
            have HR8 := Lib.hid ((HR7.out).stay (Chg.below b1 (fun _ => False)) (fun _ _ => id))
            have HB8 := Lib.hid ((HB7.out).trans (b1.mono (HB7.out).size))
            have Y1 := Lib.hid y1
            clear b1 y1 HD7 HR7 HB7
            go_wp2_with fail
            have h8 := HR8.out
            have hp := Try.rpr_any h8 (by have := HK24.out; omega) (by have := HQL.out; omega) f m0 HT.out
            with_reducible refine hp.mono ?_
            clear hp h8
            rintro e w9 ⟨v2, rfl, b2, ⟨X2, m2, rfl⟩, y2⟩
            have HD9 := Lib.hid ((HD8.out).stay (Chg.below b2 (fun _ => False)) (fun _ _ => id))
            have HB9 := Lib.hid ((HB8.out).trans (b2.mono (HB8.out).size))
            have y1 := (Y1.out) w9 b2
            replace y2 := y2 w9 (Below.refl _ _)
            generalize prc k f m0 T = cr
            generalize prl k f m0 T = lr at y1 y2 ⊢
            generalize lr.length = N1 at y1 y2 ⊢
            clear b2 Y1 HD8 HR8 HB8
            rcases HPC.out with rfl | rfl
            · go_wp2_with fail
              clear y1 y2
              refine (Try.size n HL.out (by have := HL.out; have := H8.out; omega) _).mono ?_
              rintro e w10 ⟨rfl, hb⟩
              have HD10 := Lib.hid ((HD9.out).stay (Chg.below hb (fun _ => False)) (fun _ _ => id))
              have HB10 := Lib.hid ((HB9.out).trans (hb.mono (HB9.out).size))
              clear hb HD9 HB9
              go_wp2_with fail
              have h8 := HD10.out
              have hp := Try.pr_any h8 (by have := HK24.out; omega) i (wpn l)
              with_reducible refine hp.mono ?_
              clear hp h8
              rintro e w11 ⟨v3, rfl, b3, ⟨X3, m3, rfl⟩, y3⟩
              obtain ⟨t1, t2⟩ := HT8.out (by simp)
              rw [t1]
              rw [t2] at y3 ⊢
              have HB11 := Lib.hid ((HB10.out).trans (b3.mono (HB10.out).size))
              replace y3 := y3 w11 (Below.refl _ _)
              have y4 := DataIn.str (c := c) ((HX.out).bel HB11.out) HL.out
              generalize l.length = N3 at y3 ⊢
              clear b3 HB10 HD10 t1 t2 hn hc h6 d1 d1'
              go_wp2_with fail
              go_ret
              exact ⟨rfl, HB11.out⟩
            · go_wp2_with fail
              go_ret
              exact ⟨rfl, HB9.out⟩
          exact AllReadyH.nil
        exact AllReadyH.nil
      refine AllReadyH.cons (o := { dst := some 62, op := Op.convert 31 9 (Operand.tmp 61), type := 9, pos := "law.go:88", after := #[{ on := 8, ground := Ground.data }, { on := 3, ground := Ground.guard }], guard := some (3, false) }) rfl (fun K hK => ?_) ?_
      · skip
        go_simp
        refine hK.out _ _ ?_ (fun hHeld => ?_)
        · exact y2
        clear hK K
        try simp only [Act.put, List.setIfInBounds_toArray, List.set_cons_zero, List.set_cons_succ]
        refine wpAnyH_ready (rs := [6]) (by kernel_rfl) (by simp) ?_
        refine AllReadyH.cons (o := { dst := some 59, op := Op.convert 31 9 (Operand.tmp 58), type := 9, pos := "law.go:88", after := #[{ on := 5, ground := Ground.data }, { on := 3, ground := Ground.guard }], guard := some (3, false) }) rfl (fun K hK => ?_) ?_
        · skip
          go_simp
          refine hK.out _ _ ?_ (fun hHeld => ?_)
          · exact y2
          clear hK K
          try simp only [Act.put, List.setIfInBounds_toArray, List.set_cons_zero, List.set_cons_succ]
          refine wpAnyH_take (i := 10) (oi := { dst := some 63, op := Op.binOp BinOp.neq 9 (Operand.tmp 59) (Operand.tmp 62) 9, type := 4, pos := "law.go:88", after := #[{ on := 6, ground := Ground.data }, { on := 9, ground := Ground.data }, { on := 3, ground := Ground.guard }], guard := some (3, false) }) (v := ?_) rfl (by kernel_rfl) (by kernel_rfl) (by kernel_rfl) (fun _ _ _ h => h) (Or.inl ⟨by rfl, ?_⟩) (by assumption) ?_
          rotate_left
          · (intro w hSw; (try dsimp only at hSw); go_simp; try with_reducible rfl)
          try simp only [Act.put, List.setIfInBounds_toArray, List.set_cons_zero, List.set_cons_succ]
          refine wpAnyH_take (i := 11) (oi := { dst := some 64, op := Op.pick (Operand.tmp 56) (Operand.const (Value.bool true)) (Operand.tmp 63), type := 4, pos := "law.go:88", after := #[{ on := 3, ground := Ground.data }, { on := 10, ground := Ground.data }], guard := none }) (v := ?_) rfl (by kernel_rfl) (by kernel_rfl) (by kernel_rfl) (fun _ _ _ h => h) (Or.inl ⟨by rfl, ?_⟩) (by assumption) ?_
          rotate_left
          · (intro w hSw; (try dsimp only at hSw); go_simp; try with_reducible rfl)
          try simp only [Act.put, List.setIfInBounds_toArray, List.set_cons_zero, List.set_cons_succ]
          refine wpAnyH_take (i := 12) (oi := { dst := some 65, op := Op.move (Operand.tmp 64), type := 4, pos := "law.go:88", after := #[{ on := 11, ground := Ground.data }, { on := 8, ground := Ground.chain }], guard := none }) (v := ?_) rfl (by kernel_rfl) (by kernel_rfl) (by kernel_rfl) (fun _ _ _ h => h) (Or.inl ⟨by rfl, ?_⟩) (by assumption) ?_
          rotate_left
          · (intro w hSw; (try dsimp only at hSw); go_simp; try with_reducible rfl)
          try simp only [Act.put, List.setIfInBounds_toArray, List.set_cons_zero, List.set_cons_succ]
          refine wpAnyH_take (i := 13) (oi := { dst := some 66, op := Op.move (Operand.tmp 12), type := 24, pos := "law.go:88", after := #[{ on := 12, ground := Ground.guard }], guard := some (12, false) }) (v := ?_) rfl (by kernel_rfl) (by kernel_rfl) (by kernel_rfl) (fun _ _ _ h => h) (Or.inl ⟨by rfl, ?_⟩) (by assumption) ?_
          rotate_left
          · (intro w hSw; (try dsimp only at hSw); go_simp; try with_reducible rfl)
          try simp only [Act.put, List.setIfInBounds_toArray, List.set_cons_zero, List.set_cons_succ]
          refine wpAnyH_take (i := 15) (oi := { dst := some 68, op := Op.move (Operand.tmp 14), type := 28, pos := "law.go:88", after := #[{ on := 12, ground := Ground.guard }], guard := some (12, false) }) (v := ?_) rfl (by kernel_rfl) (by kernel_rfl) (by kernel_rfl) (fun _ _ _ h => h) (Or.inl ⟨by rfl, ?_⟩) (by assumption) ?_
          rotate_left
          · (intro w hSw; (try dsimp only at hSw); go_simp; try with_reducible rfl)
          try simp only [Act.put, List.setIfInBounds_toArray, List.set_cons_zero, List.set_cons_succ]
          refine wpAnyH_take (i := 16) (oi := { dst := some 69, op := Op.nilCheck (Operand.tmp 68), type := 0, pos := "law.go:88", after := #[{ on := 15, ground := Ground.data }, { on := 12, ground := Ground.guard }], guard := some (12, false) }) (v := ?_) rfl (by kernel_rfl) (by kernel_rfl) (by kernel_rfl) (fun _ _ _ h => h) (Or.inl ⟨by rfl, ?_⟩) (by assumption) ?_
          rotate_left
          · (intro w hSw; (try dsimp only at hSw); go_simp; try with_reducible rfl)
          try simp only [Act.put, List.setIfInBounds_toArray, List.set_cons_zero, List.set_cons_succ]
          refine wpAnyH_take (i := 17) (oi := { dst := some 70, op := Op.fieldAddr 60 (Operand.tmp 69) 1, type := 0, pos := "law.go:88", after := #[{ on := 16, ground := Ground.data }, { on := 12, ground := Ground.guard }], guard := some (12, false) }) (v := ?_) rfl (by kernel_rfl) (by kernel_rfl) (by kernel_rfl) (fun _ _ _ h => h) (Or.inl ⟨by rfl, ?_⟩) (by assumption) ?_
          rotate_left
          · (intro w hSw; (try dsimp only at hSw); go_simp; try with_reducible rfl)
          try simp only [Act.put, List.setIfInBounds_toArray, List.set_cons_zero, List.set_cons_succ]
          refine wpAnyH_take (i := 18) (oi := { dst := some 71, op := Op.load 58 (Operand.tmp 70), type := 58, pos := "law.go:88", after := #[{ on := 17, ground := Ground.data }, { on := 12, ground := Ground.guard }], guard := some (12, false) }) (v := ?_) rfl (by kernel_rfl) (by kernel_rfl) (by kernel_rfl) (fun _ _ _ h => h) (Or.inl ⟨by rfl, ?_⟩) (by assumption) ?_
          rotate_left
          · (intro w hSw; (try dsimp only at hSw); go_simp; try with_reducible rfl)
          try simp only [Act.put, List.setIfInBounds_toArray, List.set_cons_zero, List.set_cons_succ]
          refine wpAnyH_take (i := 19) (oi := { dst := some 72, op := Op.call { callee := Callee.builtin Builtin.len, args := #[Operand.tmp 71], argTypes := #[58] }, type := 3, pos := "law.go:88", after := #[{ on := 18, ground := Ground.data }, { on := 12, ground := Ground.guard }], guard := some (12, false) }) (v := ?_) rfl (by kernel_rfl) (by kernel_rfl) (by kernel_rfl) (fun _ _ _ h => h) (Or.inl ⟨by rfl, ?_⟩) (by assumption) ?_
          rotate_left
          · (intro w hSw; (try dsimp only at hSw); go_simp; try with_reducible rfl)
          try simp only [Act.put, List.setIfInBounds_toArray, List.set_cons_zero, List.set_cons_succ]
          refine wpAnyH_ready (rs := [14]) (by kernel_rfl) (by simp) ?_
          refine AllReadyH.cons (o := { dst := some 67, op := Op.call { callee := Callee.value (Operand.func 27), args := #[Operand.tmp 66], argTypes := #[24] }, type := 3, pos := "law.go:88", after := #[{ on := 13, ground := Ground.data }, { on := 12, ground := Ground.chain }, { on := 12, ground := Ground.guard }], guard := some (12, false) }) rfl (fun K hK => ?_) ?_
          · skip
            refine step_want (by rfl) ?_
            go_simp
            refine (Try.waits _ _ _ _ _ z2).mono ?_
            rintro e w' ⟨rfl, rfl⟩
            dsimp only
            refine hK.out _ _ ?_ (fun hHeld => ?_)
            · exact y2
            clear hK K
            try simp only [Act.put, List.setIfInBounds_toArray, List.set_cons_zero, List.set_cons_succ]
            refine wpAnyH_take (i := 20) (oi := { dst := some 73, op := Op.binOp BinOp.neq 3 (Operand.tmp 67) (Operand.tmp 72) 3, type := 4, pos := "law.go:88", after := #[{ on := 14, ground := Ground.data }, { on := 19, ground := Ground.data }, { on := 12, ground := Ground.guard }], guard := some (12, false) }) (v := ?_) rfl (by kernel_rfl) (by kernel_rfl) (by kernel_rfl) (fun _ _ _ h => h) (Or.inl ⟨by rfl, ?_⟩) (by assumption) ?_
            rotate_left
            · (intro w hSw; (try dsimp only at hSw); go_simp; try with_reducible rfl)
            try simp only [Act.put, List.setIfInBounds_toArray, List.set_cons_zero, List.set_cons_succ]
            refine wpAnyH_take (i := 21) (oi := { dst := some 74, op := Op.pick (Operand.tmp 65) (Operand.const (Value.bool true)) (Operand.tmp 73), type := 4, pos := "law.go:88", after := #[{ on := 12, ground := Ground.data }, { on := 20, ground := Ground.data }], guard := none }) (v := ?_) rfl (by kernel_rfl) (by kernel_rfl) (by kernel_rfl) (fun _ _ _ h => h) (Or.inl ⟨by rfl, ?_⟩) (by assumption) ?_
            rotate_left
            · (intro w hSw; (try dsimp only at hSw); go_simp; try with_reducible rfl)
            try simp only [Act.put, List.setIfInBounds_toArray, List.set_cons_zero, List.set_cons_succ]
            refine wpAnyH_done (by kernel_rfl) ?_ _
            refine NoPanic.normal ?_
            clear x1 x12 x2 y1 y2 z2
            have HB7 : Hid (Below w.heap.size w w7) := Lib.hid ((HB5.out).trans ((show Below w5.heap.size w5 w7 from ⟨(K2.out).os, (K2.out).tape, (K2.out).output, (K2.out).size, fun b hb => (K2.out).block b hb id⟩).mono (HB5.out).size))
            have HD7 := Lib.hid ((HD5.out).stay K2.out (fun _ _ => id))
            have HR7 := Lib.hid ((HR5.out).stay K2.out (fun _ _ => id))
            clear K1 K2 B1 HDW HRW HD5 HR5 hml hdl hdc2 hrc1 HB5
            go_wp2_with fail
            have h8 := HD7.out
            have hp := Try.pr_any h8 (by have := HK24.out; omega) f m0
            with_reducible refine hp.mono ?_
            clear hp h8
            rintro e w8 ⟨v1, rfl, b1, ⟨X1, m1, rfl⟩, y1⟩
            have HD8 := Lib.hid ((HD7.out).stay (Chg.below b1 (fun _ => False)) (fun _ _ => id))
            have HR8 := Lib.hid ((HR7.out).stay (Chg.below b1 (fun _ => False)) (fun _ _ => id))
            have HB8 := Lib.hid ((HB7.out).trans (b1.mono (HB7.out).size))
            have Y1 := Lib.hid y1
            clear b1 y1 HD7 HR7 HB7
            go_wp2_with fail
            have h8 := HR8.out
            have hp := Try.rpr_any h8 (by have := HK24.out; omega) (by have := HQL.out; omega) f m0 HT.out
            with_reducible refine hp.mono ?_
            clear hp h8
            rintro e w9 ⟨v2, rfl, b2, ⟨X2, m2, rfl⟩, y2⟩
            have HD9 := Lib.hid ((HD8.out).stay (Chg.below b2 (fun _ => False)) (fun _ _ => id))
            have HB9 := Lib.hid ((HB8.out).trans (b2.mono (HB8.out).size))
            have y1 := (Y1.out) w9 b2
            replace y2 := y2 w9 (Below.refl _ _)
            generalize prc k f m0 T = cr
            generalize prl k f m0 T = lr at y1 y2 ⊢
            generalize lr.length = N1 at y1 y2 ⊢
            clear b2 Y1 HD8 HR8 HB8
            rcases HPC.out with rfl | rfl
            · go_wp2_with fail
              clear y1 y2
              refine (Try.size n HL.out (by have := HL.out; have := H8.out; omega) _).mono ?_
              rintro e w10 ⟨rfl, hb⟩
              have HD10 := Lib.hid ((HD9.out).stay (Chg.below hb (fun _ => False)) (fun _ _ => id))
              have HB10 := Lib.hid ((HB9.out).trans (hb.mono (HB9.out).size))
              clear hb HD9 HB9
              go_wp2_with fail
              have h8 := HD10.out
              have hp := Try.pr_any h8 (by have := HK24.out; omega) i (wpn l)
              with_reducible refine hp.mono ?_
              clear hp h8
              rintro e w11 ⟨v3, rfl, b3, ⟨X3, m3, rfl⟩, y3⟩
              obtain ⟨t1, t2⟩ := HT8.out (by simp)
              rw [t1]
              rw [t2] at y3 ⊢
              have HB11 := Lib.hid ((HB10.out).trans (b3.mono (HB10.out).size))
              replace y3 := y3 w11 (Below.refl _ _)
              have y4 := DataIn.str (c := c) ((HX.out).bel HB11.out) HL.out
              generalize l.length = N3 at y3 ⊢
              clear b3 HB10 HD10 t1 t2 hn hc h6 d1 d1'
              go_wp2_with fail
              go_ret
              exact ⟨rfl, HB11.out⟩
            · go_wp2_with fail
              go_ret
              exact ⟨rfl, HB9.out⟩
          exact AllReadyH.nil
        exact AllReadyH.nil
      exact AllReadyH.nil
    exact AllReadyH.nil
  exact AllReadyH.nil
end Go.Proofs
end

section
namespace Go.Proofs
open Go.RowKit
set_option maxRecDepth 100000
theorem Try.writes_long (w : World) (A : Option Addr) (n c : Nat) (a b d e : Value) (h : 600 < n) : Calls Try.prog 8 #[.slice A n c, a, b, d, e] w (YesO w) := by
  have hd : decide (600 < (n : Int)) = true := by simp; omega
  have hd' : decide (600 < n) = true := by simp; omega
  clear h
  go_enter Try.func8, Try.ntmps8
  go_wp2_with fail
  refine (Try.known13 _).mono ?_
  rintro e w1 ⟨rfl, hb1⟩
  have HB := Lib.hid hb1
  clear hb1
  go_wp2_with fail
  go_ret
  exact ⟨rfl, HB.out⟩
theorem Try.apart_long (w : World) (A B : Option Addr) (n c n2 c2 : Nat) (a b : Value) (h : 120 < n ∨ 120 < n2) : Calls Try.prog 9 #[.slice A n c, .slice B n2 c2, a, b] w (YesO w) := by
  by_cases h1 : 120 < n
  · have hd : decide (120 < (n : Int)) = true := by simp; omega
    have hd' : decide (120 < n) = true := by simp; omega
    clear h
    go_enter Try.func9, Try.ntmps9
    go_wp2_with fail
    refine (Try.known13 _).mono ?_
    rintro e w1 ⟨rfl, hb1⟩
    have HB := Lib.hid hb1
    clear hb1
    go_wp2_with fail
    go_ret
    exact ⟨rfl, HB.out⟩
  · have hd : decide (120 < (n : Int)) = false := by simp; omega
    have hd' : decide (120 < n) = false := by simp; omega
    have hd2 : decide (120 < (n2 : Int)) = true := by simp; omega
    have hd2' : decide (120 < n2) = true := by simp; omega
    clear h
    go_enter Try.func9, Try.ntmps9
    go_wp2_with fail
    refine (Try.known13 _).mono ?_
    rintro e w1 ⟨rfl, hb1⟩
    have HB := Lib.hid hb1
    clear hb1
    go_wp2_with fail
    go_ret
    exact ⟨rfl, HB.out⟩
theorem row_data {w : World} {a : Option Addr} {len cap : Nat} {zs : List Int} (h : IsRow .u8 w a len cap zs) : len ≤ cap ∧ cap ≤ maxLen ∧ ∃ bb : List UInt8, bb.length = len ∧ DataIn w a len bb := by
  obtain ⟨bb, h1, h2, h3⟩ := data_at h
  rcases h with ⟨_, rfl, rfl, _⟩ | ⟨x, rfl, p1, p2, _⟩
  · exact ⟨Nat.le_refl _, by decide, bb, h1, h3⟩
  · exact ⟨p1, p2, bb, h1, h3⟩
theorem u8_nat {n : Int} (h : (Lit.int .u8 n).wf = true) : ∃ s : Nat, n = s := by
  simp [Lit.wf, IntKind.min, IntKind.max, IntKind.bits, IntKind.signed] at h
  exact ⟨n.toNat, by omega⟩
theorem Try.writes_all (w : World) (A : Option Addr) (n c : Nat) (z : List Int) (s i f m : Int) (w0 : IsRow .u8 w A n c z) (w1 : (Lit.int .u8 s).wf = true) :
    Calls Try.prog 8 #[.slice A n c, .int .u8 s, .int .i64 i, .int .i64 f, .int .i64 m] w (YesO w) := by
  obtain ⟨s, rfl⟩ := u8_nat w1
  obtain ⟨h1, h2, bb, h3, h4⟩ := row_data w0
  by_cases h : 600 < n
  · exact Try.writes_long w A n c _ _ _ _ h
  · exact Try.writes w A n c bb h3 h1 h2 h4 s i f m (by omega)
theorem Try.apart_all (w : World) (A : Option Addr) (n c : Nat) (z : List Int) (B : Option Addr) (n2 c2 : Nat) (z2 : List Int) (s t : Int) (w0 : IsRow .u8 w A n c z) (w1 : IsRow .u8 w B n2 c2 z2) (w2 : (Lit.int .u8 s).wf = true) (w3 : (Lit.int .u8 t).wf = true) :
    Calls Try.prog 9 #[.slice A n c, .slice B n2 c2, .int .u8 s, .int .u8 t] w (YesO w) := by
  obtain ⟨s, rfl⟩ := u8_nat w2
  obtain ⟨t, rfl⟩ := u8_nat w3
  obtain ⟨h1, h2, bb, h3, h4⟩ := row_data w0
  obtain ⟨g1, g2, bb2, g3, g4⟩ := row_data w1
  by_cases h : 120 < n ∨ 120 < n2
  · exact Try.apart_long w A B n c n2 c2 _ _ h
  · exact Try.apart w A B n c n2 c2 bb bb2 h3 g3 h1 h2 g1 g2 h4 g4 s t (by omega) (by omega)
end Go.Proofs
end
