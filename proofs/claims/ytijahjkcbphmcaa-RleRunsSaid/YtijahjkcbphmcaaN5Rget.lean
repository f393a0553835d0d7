/-
  Texts of a proof over the translated program: N5Rget.
-/
import Derived.Test.YtijahjkcbphmcaaN5RgetNf
set_option linter.unusedVariables false
namespace Sp
open Go Go.AbsM
def rget (b : List Int) (k : Int) : List (Int × Int × Unit) × Int × Int := if k < 0 then ([], k, 1) else rgetF b (b.length + 1) 0 k []
theorem sub_u64 {a b : Int} (h0 : 0 ≤ a - b) (h1 : a - b < 18446744073709551616) : W.sub .u64 a b = a - b := by
  unfold W.sub; rw [wrap_u64]; omega
theorem sub_i64' {a b : Int} (h0 : -9223372036854775808 ≤ a - b) (h1 : a - b < 9223372036854775808) : W.sub .i64 a b = a - b := by
  unfold W.sub; rw [wrap_i64]; omega
theorem told_snoc (xs : List (Int × Int × Unit)) (c x : Int) : (told (xs ++ [(c, x, ())])).length = (told xs).length + c.toNat := by
  rw [told_app, List.length_append]
  simp only [told, List.append_nil, List.length_replicate]
theorem inP_snoc {xs : List (Int × Int × Unit)} {c x : Int} (h : inP xs) (h1 : 0 ≤ c ∧ c < 18446744073709551616) (h2 : 0 ≤ x ∧ x < 18446744073709551616) : inP (xs ++ [(c, x, ())]) := fun p hp => by
  rcases List.mem_append.1 hp with hp | hp
  · exact h p hp
  · rcases List.mem_singleton.1 hp with rfl
    exact ⟨h1, h2⟩
end Sp
namespace Go.Proofs.Ytijahjkcbphmcaa
open Go.AbsM
theorem goodGL : Goods Try.prog getL := .cons good46 (.cons good47 .nil)
def preR (d : List Int × Int × Unit) : Prop := Sp.bytes d.1 ∧ d.1.length < 1000000 ∧ -9223372036854775808 ≤ d.2.1 ∧ d.2.1 < 500000
def outR (d : List Int × Int × Unit) : TV := .tup [.own 39 (.int .u64) (Sp.told (Sp.rget d.1 d.2.1).1), .c (.a (.x (.int .i64 0)))]
def outE (d : List Int × Int × Unit) : TV := .tup [.c (.a .nils), .c (.a (.x (.int .i64 (Sp.rget d.1 d.2.1).2.2)))]
def ctr28o : TCtr := .det 28 [.l 5 (.int .u8), .v (.int .i64)] (fun (d : List Int × Int × Unit) => preR d ∧ (Sp.rget d.1 d.2.1).2.2 = 0) outR fun _ => rfl
def ctr28e : TCtr := .det 28 [.l 5 (.int .u8), .v (.int .i64)] (fun (d : List Int × Int × Unit) => preR d ∧ (Sp.rget d.1 d.2.1).2.2 ≠ 0) outE fun _ => rfl
def mu28 (i : List Int × Int × Int × Int × List (Int × Int × Unit) × Nat) : Nat := i.2.2.2.2.2

theorem step28 : ∀ i Φ, psi28 i Φ → wpT Try.prog (knownL getL noneK lab28) (restC (bodyOf Try.f28) 0) (mk28 i) (jumpK (knownL getL noneK lab28) 71 [0, 1, 6, 7, 8] [63] [4, 5] [25] (scC (bodyOf Try.f28)) 0 mk28 mu28 psi28 (mu28 i) Φ) := by
  rintro ⟨b, k, a, left, xs, f⟩ Φ ⟨⟨hb, hbl, hk, ha0, ha1, hl0, hsum, hin, hne, hxl, hf⟩, hO, hE⟩
  simp only at hb hbl hk ha0 ha1 hl0 hsum hin hne hxl hf
  have hO : (Sp.rgetF b f a left xs).2.2 = 0 → Φ .ret (mkS 71 [(4, TV.h 25), (5, TV.int .i64 0)] [(25, .arr false 39 (.int .u64) (Sp.told (Sp.rgetF b f a left xs).1))]) := hO
  have hE : (Sp.rgetF b f a left xs).2.2 ≠ 0 → Φ .ret (mkS 71 [(4, .a .nils), (5, TV.int .i64 (Sp.rgetF b f a left xs).2.2)] []) := hE
  obtain ⟨f, rfl⟩ : ∃ g, f = g + 1 := ⟨f - 1, by omega⟩
  refine Eq.mpr (nf28s _ _ _ _ b k a left xs (f + 1) Φ _) ?_
  have e1 : W.ofNat (W.len b) = (b.length : Int) := rfl
  have e2 : W.ofNat (W.len xs) = (xs.length : Int) := rfl
  have hxp : 0 < xs.length := List.length_pos_iff.2 hne
  rw [e1, e2]
  refine brc_ieq (fun h => ?_) fun h => ⟨⟨hb, by omega, by omega, by omega⟩, ?_⟩
  · have er : Sp.rgetF b (f + 1) a left xs = (xs, left, 0) := by simp only [Sp.rgetF]; rw [if_pos h]
    rw [er] at hO
    have ew : W.wrap .i64 left = left := W.wi64_in (by omega) (by omega)
    have es : W.sub .i64 k left = k - left := Sp.sub_i64' (by omega) (by omega)
    rw [ew, es]
    exact ⟨⟨hin, by omega, by omega, by omega, by omega⟩, hO rfl⟩
  · have er0 : Sp.rgetF b (f + 1) a left xs = (if (Sp.next b a).2.2 ≠ 0 then ([], left, (Sp.next b a).2.2)
        else if (Sp.next b a).1.1 = 0 ∨ (xs ≠ [] ∧ (Sp.next b a).1.2 = (xs.getD (xs.length - 1) (0, 0, ())).2.1) then ([], left, 2)
        else if left < (Sp.next b a).1.1 then ([], left, 4)
        else Sp.rgetF b f (a + (Sp.next b a).2.1) (left - (Sp.next b a).1.1) (xs ++ [((Sp.next b a).1.1, (Sp.next b a).1.2, ())])) := by
      simp only [Sp.rgetF]; rw [if_neg h]
    refine brc_ine (fun h1 => ?_) fun h1 => ?_
    · rw [er0, if_pos h1] at hE; exact hE h1
    · rw [if_neg (fun y => y h1)] at er0
      obtain ⟨c1, x1, n1, n2⟩ := Sp.next_ok hb hbl ha0 ha1 h1
      refine brc_ieq (fun h2 => ?_) fun h2 => ?_
      · rw [er0, if_pos (.inl h2)] at hE; exact hE (show (2 : Int) ≠ 0 by decide)
      · have e3 : W.sub .i64 (xs.length : Int) 1 = (xs.length : Int) - 1 := Sp.sub_i64' (by omega) (by omega)
        have e4 : W.toNat ((xs.length : Int) - 1) = xs.length - 1 := by show Int.toNat _ = _; omega
        have e5 : W.nth xs (xs.length - 1) (0, 0, PUnit.unit) = xs.getD (xs.length - 1) (0, 0, ()) := rfl
        rw [e3, e4, e5]
        refine brc_igt (fun _ => grd_ile (by omega) (grd_nlt (by simp only [W.len]; omega) (grd_nlt (by simp only [W.len]; omega) ?_))) fun h => by omega
        refine brc_ieq (fun h3 => ?_) fun h3 => ?_
        · rw [er0, if_pos (.inr ⟨hne, h3⟩)] at hE; exact hE (show (2 : Int) ≠ 0 by decide)
        · rw [if_neg (by rintro (h | ⟨_, h⟩); exact h2 h; exact h3 h)] at er0
          refine brc_igt (fun h4 => ?_) fun h4 => ?_
          · rw [er0, if_pos h4] at hE; exact hE (show (4 : Int) ≠ 0 by decide)
          · rw [if_neg (by omega)] at er0
            rw [er0] at hO hE
            rw [W.add_i64 (by omega) (by omega), Sp.sub_u64 (by omega) (by omega)]
            have ht := Sp.told_snoc xs (Sp.next b a).1.1 (Sp.next b a).1.2
            refine grd_nle (by simp only [W.nmul, W.nadd, W.len, List.length_cons, List.length_nil]; omega) ⟨(b, k, a + (Sp.next b a).2.1, left - (Sp.next b a).1.1, xs ++ [((Sp.next b a).1.1, (Sp.next b a).1.2, ())], f), rfl, Nat.lt_succ_self f, ⟨hb, hbl, hk, ?_, ?_, ?_, ?_, Sp.inP_snoc hin c1 x1, ?_, ?_, ?_⟩, hO, hE⟩
            · show 0 ≤ a + (Sp.next b a).2.1; omega
            · show a + (Sp.next b a).2.1 ≤ b.length; omega
            · show 0 ≤ left - (Sp.next b a).1.1; omega
            · show ((Sp.told (xs ++ [((Sp.next b a).1.1, (Sp.next b a).1.2, ())])).length : Int) + (left - (Sp.next b a).1.1) = k; omega
            · show xs ++ [_] ≠ []; simp
            · show (xs ++ [_]).length ≤ (Sp.told (xs ++ [((Sp.next b a).1.1, (Sp.next b a).1.2, ())])).length
              rw [ht, List.length_append]; simp only [List.length_cons, List.length_nil]; omega
            · show (b.length : Int) - (a + (Sp.next b a).2.1) < (f : Int); omega

theorem head28 {b : List Int} {k : Int} (hb : Sp.bytes b) (hbl : b.length < 1000000) (hk0 : -9223372036854775808 ≤ k) (hk : k < 500000) (Q : TV → Prop)
    (hO : (Sp.rget b k).2.2 = 0 → Q (.tup [.own 39 (.int .u64) (Sp.told (Sp.rget b k).1), .c (.a (.x (.int .i64 0)))])) (hE : (Sp.rget b k).2.2 ≠ 0 → Q (.tup [.c (.a .nils), .c (.a (.x (.int .i64 (Sp.rget b k).2.2)))])) :
    wpFn Try.prog (knownL getL noneK lab28) Try.f28 [.c (.sl 5 (.int .u8) (.mk b)), .c (.a (.x (.int .i64 k)))] Q := by
  refine Eq.mpr (nf28 b k Q) ?_
  have e1 : W.ofNat (W.len b) = (b.length : Int) := rfl
  rw [e1]
  refine brc_ilt (fun h => ?_) fun h => ?_
  · have er : Sp.rget b k = ([], k, 1) := if_pos h
    rw [er] at hE; exact hE (show (1 : Int) ≠ 0 by decide)
  · have er : Sp.rget b k = Sp.rgetF b (b.length + 1) 0 k [] := if_neg (by omega)
    rw [er] at hO hE
    have ew : W.wrap .u64 k = k := W.wu64_in (by omega) (by omega)
    have ew2 : W.wrap .i64 k = k := W.wi64_in (by omega) (by omega)
    have es : W.sub .i64 k k = k - k := Sp.sub_i64' (by omega) (by omega)
    rw [ew, ew2, es]
    refine brc_ieq (fun h0 => ?_) fun h0 => ⟨⟨hb, by omega, by decide, by decide⟩, ?_⟩
    · have er2 : Sp.rgetF b (b.length + 1) 0 k [] = ([], k, 0) := by simp only [Sp.rgetF]; rw [if_pos h0]
      rw [er2] at hO
      exact ⟨⟨fun p hp => (by cases hp), by decide, by decide, by omega, by omega⟩, hO rfl⟩
    · have er0 : Sp.rgetF b (b.length + 1) 0 k [] = (if (Sp.next b 0).2.2 ≠ 0 then ([], k, (Sp.next b 0).2.2)
          else if (Sp.next b 0).1.1 = 0 ∨ (([] : List (Int × Int × Unit)) ≠ [] ∧ (Sp.next b 0).1.2 = (([] : List (Int × Int × Unit)).getD (([] : List (Int × Int × Unit)).length - 1) (0, 0, ())).2.1) then ([], k, 2)
          else if k < (Sp.next b 0).1.1 then ([], k, 4)
          else Sp.rgetF b b.length (0 + (Sp.next b 0).2.1) (k - (Sp.next b 0).1.1) ([] ++ [((Sp.next b 0).1.1, (Sp.next b 0).1.2, ())])) := by
        simp only [Sp.rgetF]; rw [if_neg h0]
      have e0 : Int.ofNat 0 = (0 : Int) := rfl
      rw [e0]
      refine brc_ine (fun h1 => ?_) fun h1 => ?_
      · rw [er0, if_pos h1] at hE; exact hE h1
      · rw [if_neg (fun y => y h1)] at er0
        obtain ⟨c1, x1, n1, n2⟩ := Sp.next_ok hb hbl (Int.le_refl 0) (by omega) h1
        refine brc_ieq (fun h2 => ?_) fun h2 => ?_
        · rw [er0, if_pos (.inl h2)] at hE; exact hE (show (2 : Int) ≠ 0 by decide)
        · rw [if_neg (by rintro (h | ⟨h, _⟩); exact h2 h; exact h rfl)] at er0
          refine brc_igt (fun h4 => ?_) fun h4 => ?_
          · rw [er0, if_pos h4] at hE; exact hE (show (4 : Int) ≠ 0 by decide)
          · rw [if_neg (by omega)] at er0
            rw [er0] at hO hE
            rw [W.add_i64 (by omega) (by omega), Sp.sub_u64 (by omega) (by omega)]
            have ht := Sp.told_snoc [] (Sp.next b 0).1.1 (Sp.next b 0).1.2
            have ht0 : (Sp.told []).length = 0 := rfl
            refine ⟨(b, k, 0 + (Sp.next b 0).2.1, k - (Sp.next b 0).1.1, [((Sp.next b 0).1.1, (Sp.next b 0).1.2, ())], b.length), rfl, ⟨hb, hbl, hk, ?_, ?_, ?_, ?_, Sp.inP_snoc (xs := []) (fun p hp => by cases hp) c1 x1, ?_, ?_, ?_⟩, hO, hE⟩
            · show 0 ≤ 0 + (Sp.next b 0).2.1; omega
            · show 0 + (Sp.next b 0).2.1 ≤ b.length; omega
            · show 0 ≤ k - (Sp.next b 0).1.1; omega
            · show ((Sp.told ([] ++ [((Sp.next b 0).1.1, (Sp.next b 0).1.2, ())])).length : Int) + (k - (Sp.next b 0).1.1) = k; omega
            · show [_] ≠ []; simp
            · show 1 ≤ (Sp.told ([] ++ [((Sp.next b 0).1.1, (Sp.next b 0).1.2, ())])).length
              rw [ht]; omega
            · show (b.length : Int) - (0 + (Sp.next b 0).2.1) < (b.length : Int); omega

theorem good28o : GoodC Try.prog ctr28o := by
  refine good_jump (fn := Try.f28) [4, 5] [25] mu28 wide goodGL ⟨by kernel_rfl, by kernel_rfl, by kernel_rfl, by kernel_rfl⟩ (by kernel_rfl) (by kernel_rfl) (by kernel_rfl) (by kernel_rfl) (n := 71) (ls := [0, 1, 6, 7, 8]) (ks := [63]) (mk := mk28) (ψ := psi28) (l := 0) step28 fun d hd => ?_
  obtain ⟨b, k, x⟩ : List Int × Int × Unit := d
  obtain ⟨⟨hb, hbl, hk0, hk⟩, he⟩ : preR (b, k, x) ∧ (Sp.rget b k).2.2 = 0 := hd
  exact head28 hb hbl hk0 hk _ (fun _ => rfl) fun h => absurd he h
theorem good28e : GoodC Try.prog ctr28e := by
  refine good_jump (fn := Try.f28) [4, 5] [25] mu28 wide goodGL ⟨by kernel_rfl, by kernel_rfl, by kernel_rfl, by kernel_rfl⟩ (by kernel_rfl) (by kernel_rfl) (by kernel_rfl) (by kernel_rfl) (n := 71) (ls := [0, 1, 6, 7, 8]) (ks := [63]) (mk := mk28) (ψ := psi28) (l := 0) step28 fun d hd => ?_
  obtain ⟨b, k, x⟩ : List Int × Int × Unit := d
  obtain ⟨⟨hb, hbl, hk0, hk⟩, he⟩ : preR (b, k, x) ∧ (Sp.rget b k).2.2 ≠ 0 := hd
  exact head28 hb hbl hk0 hk _ (fun h => absurd h he) fun _ => rfl
end Go.Proofs.Ytijahjkcbphmcaa
