/-
  Texts of a proof over the translated program: N5Far.
-/
import Derived.Test.YtijahjkcbphmcaaN5FarNf
set_option linter.unusedVariables false
namespace Sp
open Go Go.AbsM
theorem next_two {n v : Int} (hn : 0 ≤ n ∧ n < 18446744073709551616) (hv : 0 ≤ v ∧ v < 18446744073709551616) : next (enc n ++ enc v) 0 = ((n, v), ((enc n).length : Int) + ((enc v).length : Int), 0) := by
  have e : encs [n, v] = enc n ++ enc v := by simp only [encs, List.append_nil]
  have h2 : ∀ x, x ∈ [n, v] → 0 ≤ x ∧ x < 18446744073709551616 := fun x hx => by
    simp only [List.mem_cons, List.not_mem_nil, or_false] at hx
    rcases hx with rfl | rfl
    · exact hn
    · exact hv
  have l1 := enc_len hn.1 hn.2
  have l2 := enc_len hv.1 hv.2
  have hlen : (encs [n, v]).length = (enc n).length + (enc v).length := by rw [e, List.length_append]
  have t1 : (encs ([n, v].take 1)) = enc n := by simp only [List.take_succ_cons, List.take_zero, encs, List.append_nil]
  have t2 : (encs ([n, v].take 2)) = enc n ++ enc v := by simp only [List.take_succ_cons, List.take_zero, encs, List.append_nil]
  have g1 := get_front (l := [n, v]) (i := 0) (k := (encs [n, v]).length) h2 (Nat.succ_pos _) (Nat.le_refl _) (by simp [encs])
  have g2 := get_front (l := [n, v]) (i := 1) (k := (encs [n, v]).length) h2 (Nat.lt_succ_self 1) (Nat.le_refl _) (by rw [t1, hlen]; omega)
  rw [List.take_length, t1, if_pos (by rw [hlen]; omega), e] at g1
  rw [List.take_length, t1, t2, if_pos (by rw [e]; exact Nat.le_refl _), e] at g2
  have z : ((encs ([n, v].take 0)).length : Int) = 0 := rfl
  have d0 : [n, v].getD 0 0 = n := rfl
  have d1 : [n, v].getD 1 0 = v := rfl
  rw [z, d0] at g1
  rw [d1] at g2
  unfold next
  rw [g1]
  simp only
  have ea : W.add .i64 0 ((enc n).length : Int) = ((enc n).length : Int) := by rw [W.add_i64 (by omega) (by omega)]; omega
  rw [ea, g2]
  simp only
  rw [if_neg (by decide), if_neg (by decide), W.add_i64 (by omega) (by omega)]
theorem rget_two {n v k : Int} (hn : 0 ≤ n ∧ n < 18446744073709551616) (hv : 0 ≤ v ∧ v < 18446744073709551616) (hk : 0 ≤ k) :
    rget (enc n ++ enc v) k = if n = 0 then ([], k, 2) else if k < n then ([], k, 4) else ([(n, v, ())], k - n, 0) := by
  have l1 := enc_len hn.1 hn.2
  have l2 := enc_len hv.1 hv.2
  have hl : (enc n ++ enc v).length = (enc n).length + (enc v).length := List.length_append
  unfold rget
  rw [if_neg (by omega)]
  have hx := next_two hn hv
  simp only [rgetF]
  rw [if_neg (by omega), hx]
  simp only
  rw [if_neg (by decide)]
  by_cases h0 : n = 0
  · rw [if_pos (.inl h0), if_pos h0]
  · rw [if_neg (by rintro (h | ⟨h, _⟩); exact h0 h; exact h rfl), if_neg h0]
    by_cases h1 : k < n
    · rw [if_pos h1, if_pos h1]
    · rw [if_neg h1, if_neg h1]
      obtain ⟨f, hf⟩ : ∃ f, (enc n ++ enc v).length = f + 1 := ⟨(enc n ++ enc v).length - 1, by omega⟩
      have : rgetF (enc n ++ enc v) (f + 1) (0 + (((enc n).length : Int) + ((enc v).length : Int))) (k - n) ([] ++ [(n, v, ())]) = ([] ++ [(n, v, ())], k - n, 0) := by
        simp only [rgetF]; rw [if_pos (by omega)]
      rw [hf, this]; rfl
end Sp
namespace Go.Proofs.Ytijahjkcbphmcaa
open Go.AbsM
theorem goodFO : Goods Try.prog farO := .cons good26 (.cons (good32 .nil) (.cons good28o .nil))
theorem goodFE : Goods Try.prog farE := .cons good26 (.cons (good32 .nil) (.cons good28e .nil))
def preF (d : Int × Int × Int × Unit) : Prop := (0 ≤ d.1 ∧ d.1 < 18446744073709551616) ∧ (0 ≤ d.2.1 ∧ d.2.1 < 18446744073709551616) ∧ 0 ≤ d.2.2.1 ∧ d.2.2.1 < 65536
def sig10 : List AT := [.v (.int .u64), .v (.int .u64), .v (.int .u16)]
def law10o : TCtr := lawC 10 [.v (.int .u64), .v (.int .u64), .v (.int .u16)] (fun (d : Int × Int × Int × Unit) => preF d ∧ d.1 ≠ 0 ∧ d.1 ≤ d.2.2.1 % 500)
def law10e : TCtr := lawC 10 [.v (.int .u64), .v (.int .u64), .v (.int .u16)] (fun (d : Int × Int × Int × Unit) => preF d ∧ ¬ (d.1 ≠ 0 ∧ d.1 ≤ d.2.2.1 % 500))
def law10 : TCtr := lawC 10 [.v (.int .u64), .v (.int .u64), .v (.int .u16)] (fun (d : Int × Int × Int × Unit) => preF d)
theorem good10o : GoodC Try.prog law10o := by
  refine good_plain (fn := Try.f10) wide goodFO ⟨by kernel_rfl, by kernel_rfl, by kernel_rfl, by kernel_rfl⟩ (by kernel_rfl) fun d hd => ?_
  obtain ⟨n, v, m, x⟩ : Int × Int × Int × Unit := d
  obtain ⟨⟨hn, hv, h0, h1⟩, c0, c1⟩ : ((0 ≤ n ∧ n < 18446744073709551616) ∧ (0 ≤ v ∧ v < 18446744073709551616) ∧ 0 ≤ m ∧ m < 65536) ∧ n ≠ 0 ∧ n ≤ m % 500 := hd
  have l1 := Sp.enc_len hn.1 hn.2
  have l2 := Sp.enc_len hv.1 hv.2
  refine Eq.mpr (nf10o n v m _) ⟨trivial, ⟨hn.1, hn.2, by decide⟩, ⟨hv.1, hv.2, by omega⟩, ?_⟩
  have e1 : W.rem m 500 = m % 500 := W.rem_pos h0
  have e2 : W.wrap .i64 (m % 500) = m % 500 := W.wi64_in (by omega) (by omega)
  have e3 : W.wrap .u64 (m % 500) = m % 500 := W.wu64_in (by omega) (by omega)
  have hr : Sp.rget (List.append (Sp.enc n) (Sp.enc v)) (m % 500) = ([(n, v, ())], m % 500 - n, 0) := by
    have := Sp.rget_two (k := m % 500) hn hv (by omega)
    rw [if_neg c0, if_neg (by omega)] at this; exact this
  have hlen : (List.append (Sp.enc n) (Sp.enc v)).length = (Sp.enc n).length + (Sp.enc v).length := List.length_append
  rw [e1, e2, e3, hr]
  have ht : Sp.told [(n, v, ())] = List.replicate n.toNat v := by simp only [Sp.told, List.append_nil]
  refine ⟨⟨⟨Sp.bytes_app (Sp.enc_bytes n) (Sp.enc_bytes v), by rw [hlen]; omega, by omega, by omega⟩, rfl⟩, brc_ieq (fun h => absurd h c0) fun _ => brc_igt (fun h => by omega) fun _ => ?_⟩
  simp only [ht]
  have e4 : W.ofNat (W.len (List.replicate n.toNat v)) = n := by
    show ((List.replicate n.toNat v).length : Int) = n
    rw [List.length_replicate]; omega
  have e5 : W.wrap .u64 n = n := W.wu64_in hn.1 hn.2
  have e6 : W.len (List.replicate n.toNat v) = n.toNat := List.length_replicate
  have e7 : W.nth (List.replicate n.toNat v) 0 0 = v := by
    obtain ⟨j, hj⟩ : ∃ j, n.toNat = j + 1 := ⟨n.toNat - 1, by omega⟩
    rw [hj]; rfl
  rw [e4, e5, e6, e7]
  refine brc_ieq (fun _ => grd_nlt (by omega) (grd_nlt (by omega) ?_)) fun h => absurd rfl h
  have : W.ieq v v = true := by simp [W.ieq]
  rw [this]; rfl
theorem good10e : GoodC Try.prog law10e := by
  refine good_plain (fn := Try.f10) wide goodFE ⟨by kernel_rfl, by kernel_rfl, by kernel_rfl, by kernel_rfl⟩ (by kernel_rfl) fun d hd => ?_
  obtain ⟨n, v, m, x⟩ : Int × Int × Int × Unit := d
  obtain ⟨⟨hn, hv, h0, h1⟩, c0⟩ : ((0 ≤ n ∧ n < 18446744073709551616) ∧ (0 ≤ v ∧ v < 18446744073709551616) ∧ 0 ≤ m ∧ m < 65536) ∧ ¬ (n ≠ 0 ∧ n ≤ m % 500) := hd
  have l1 := Sp.enc_len hn.1 hn.2
  have l2 := Sp.enc_len hv.1 hv.2
  refine Eq.mpr (nf10e n v m _) ⟨trivial, ⟨hn.1, hn.2, by decide⟩, ⟨hv.1, hv.2, by omega⟩, ?_⟩
  have e1 : W.rem m 500 = m % 500 := W.rem_pos h0
  have e2 : W.wrap .i64 (m % 500) = m % 500 := W.wi64_in (by omega) (by omega)
  have e3 : W.wrap .u64 (m % 500) = m % 500 := W.wu64_in (by omega) (by omega)
  have hr := Sp.rget_two (k := m % 500) hn hv (by omega)
  have hr : Sp.rget (List.append (Sp.enc n) (Sp.enc v)) (m % 500) = if n = 0 then ([], m % 500, 2) else if m % 500 < n then ([], m % 500, 4) else ([(n, v, ())], m % 500 - n, 0) := hr
  have hlen : (List.append (Sp.enc n) (Sp.enc v)).length = (Sp.enc n).length + (Sp.enc v).length := List.length_append
  rw [e1, e2, e3, hr]
  by_cases hz : n = 0
  · rw [if_pos hz]
    refine ⟨⟨⟨Sp.bytes_app (Sp.enc_bytes n) (Sp.enc_bytes v), by rw [hlen]; omega, by omega, by omega⟩, show (2 : Int) ≠ 0 by decide⟩, brc_ieq (fun _ => brc_ieq (fun _ => rfl) fun h => absurd rfl h) fun h => absurd hz h⟩
  · rw [if_neg hz, if_pos (by omega)]
    refine ⟨⟨⟨Sp.bytes_app (Sp.enc_bytes n) (Sp.enc_bytes v), by rw [hlen]; omega, by omega, by omega⟩, show (4 : Int) ≠ 0 by decide⟩, brc_ieq (fun h => absurd h hz) fun _ => brc_igt (fun _ => brc_ieq (fun _ => rfl) fun h => absurd rfl h) fun h => by omega⟩
theorem good10 : GoodC Try.prog law10 where
  there := good10o.there
  cells := good10o.cells
  call := fun d hp S => by
    obtain ⟨n, v, m, x⟩ : Int × Int × Int × Unit := d
    by_cases h : n ≠ 0 ∧ n ≤ m % 500
    · exact good10o.call (n, v, m, x) ⟨hp, h⟩ S
    · exact good10e.call (n, v, m, x) ⟨hp, h⟩ S
end Go.Proofs.Ytijahjkcbphmcaa
