/-
  Texts of a proof over the translated program: NpPage2.
-/
import Derived.Test.YtbfeilpjkcmfhaaNpPage2Nf
set_option linter.unusedVariables false
namespace Go.Proofs.Ytbfeilpjkcmfhaa
open Go.AbsM
theorem errU_14 {b : List Int} {x : Unit} (h : Sp.unwB b = false) : errU = ctr14.out (b, x) := (if_neg (by rw [h]; decide)).symm
theorem okE_14 {b : List Int} {x : Unit} (h : Sp.unwB b = true) (k : (Sp.unwD b).length = 0) : TV.tup [T1.c (TC.sl 5 (VT.int .u8) (NL.mk ([] : List Int))), T1.c (TC.a (AV.x (Value.int .i64 0)))] = ctr14.out (b, x) := by
  show _ = if Sp.unwB b = true then (if (Sp.unwD b).length = 0 then okE b else okU b) else errU
  rw [if_pos h, if_pos k]
  have : Sp.unwD b = [] := List.length_eq_zero_iff.1 k
  show _ = TV.tup [T1.c (TC.sl 5 (VT.int .u8) (NL.mk (Sp.unwD b))), T1.c (TC.a (AV.x (Value.int .i64 0)))]
  exact congrArg (fun z : List Int => TV.tup [T1.c (TC.sl 5 (VT.int .u8) (NL.mk z)), T1.c (TC.a (AV.x (Value.int .i64 0)))]) this.symm
theorem okU_14 {b : List Int} {x : Unit} (h : Sp.unwB b = true) (k : (Sp.unwD b).length ≠ 0) : okU b = ctr14.out (b, x) := by
  show _ = if Sp.unwB b = true then (if (Sp.unwD b).length = 0 then okE b else okU b) else errU
  rw [if_pos h, if_neg k]
theorem errU_15 {b : List Int} {x : Unit} (h : Sp.unwB b = false) : errU = ctr15.out (b, x) := (if_neg (by rw [h]; decide)).symm
theorem okU_15 {b : List Int} {x : Unit} (h : Sp.unwB b = true) : okU b = ctr15.out (b, x) := by
  show _ = if Sp.unwB b = true then okU b else errU
  rw [if_pos h]
theorem goodsU : Goods Try.prog unwL := .cons good12 (.cons good28 (.cons (good32 .nil) (.cons (good33 .nil) (.cons good34 .nil))))
theorem good14 : GoodC Try.prog ctr14 := by
  refine good_loop (fn := Try.f14) [2, 3, 5, 7, 10] [] (fun i : List Int × Int × Int × List Int × Int => ((i.2.2.2.1.length : Int) - i.2.2.2.2).toNat) wide goodsU ⟨by kernel_rfl, by kernel_rfl, by kernel_rfl, by kernel_rfl⟩ (by kernel_rfl) (by kernel_rfl) (by kernel_rfl) (by kernel_rfl) (n := 76) (ls := [2, 3, 5, 7, 10, 62, 63, 64]) (ks := []) (mk := mk14) (ψ := psi14) (id := 0) ?_ ?_
  · rintro ⟨r, n, e, t, k⟩ Φ ⟨⟨hl, h0, h1⟩, hT, hF⟩
    refine Eq.mpr (nf14s _ _ _ r n e t k Φ _) ?_
    simp only at hl h0 h1 hT hF
    have eL : W.ofNat (W.len t) = (t.length : Int) := rfl
    have eN : W.toNat k = k.toNat := rfl
    have eG : W.nth t k.toNat 0 = t.getD k.toNat 0 := rfl
    rw [eN, eG]
    refine brc_ilt (fun h => ?_) fun h => ?_
    · rw [eL] at h
      have hz := Sp.zeros_step (t := t) (k := k.toNat) (by omega)
      rw [hz] at hT hF
      refine grd_ile h0 (grd_nlt (by simp only [W.len]; omega) (brc_ine (fun hne => ?_) fun heq => ?_))
      · rw [decide_eq_false hne] at hF
        exact hF rfl
      · rw [decide_eq_true heq, Bool.true_and] at hT hF
        rw [W.add_i64 (by omega) (by omega)]
        have e2 : (k + 1).toNat = k.toNat + 1 := by omega
        refine ⟨(r, n, e, t, k + 1), rfl, ?_, ⟨hl, ?_, ?_⟩, ?_, ?_⟩
        · show ((t.length : Int) - (k + 1)).toNat < ((t.length : Int) - k).toNat; omega
        · show 0 ≤ k + 1; omega
        · show k + 1 ≤ t.length; omega
        · show Sp.zeros (t.drop (k + 1).toNat) = true → _
          rw [e2]; exact hT
        · show Sp.zeros (t.drop (k + 1).toNat) = false → _
          rw [e2]; exact hF
    · rw [eL] at h
      exact hT (Sp.zeros_end (by omega))
  · intro d hd
    obtain ⟨b, x⟩ : List Int × Unit := d
    obtain ⟨hb, hl⟩ : Sp.bytes b ∧ b.length < 1000000 := hd
    refine Eq.mpr (nf14 b _) ?_
    have eL : W.ofNat (W.len b) = (b.length : Int) := rfl
    have eR : W.rem (b.length : Int) 64 = (b.length : Int) % 64 := W.rem_pos (by omega)
    have eZ : Int.ofNat 0 = 0 := rfl
    rw [eL, eR, eZ]
    refine brc_ieq (fun h => errU_14 (Sp.unwB_no (by omega))) fun h => brc_ine (fun h' => errU_14 (Sp.unwB_no (by omega))) fun h' => ?_
    have h4 : Sp.get4 b 0 = (Sp.e4 b 0, 4, 0) := Sp.get4_in (by omega) (by omega)
    have hR : W.drop (W.toNat 4) (W.take (W.len b) b) = b.drop 4 := by
      show (b.take b.length).drop 4 = _
      rw [List.take_length]
    simp only [h4, hR]
    have hbR : Sp.bytes (b.drop 4) := fun x hx => hb x (List.mem_of_mem_drop hx)
    have hlR : (b.drop 4).length = b.length - 4 := List.length_drop
    refine ⟨⟨hb, by omega, by omega, by omega⟩, grd_ile (by omega) (grd_ile (by omega) ⟨⟨hbR, by omega⟩, brc_ine (fun hne => errU_14 (Sp.unwB_no fun hh => hne (by rw [hh.2.2.1, h4]))) fun heq => ⟨⟨hbR, by omega, by omega, by omega⟩, ?_⟩⟩)⟩
    rcases hg : Sp.get (b.drop 4) 0 with ⟨u, n, e⟩
    simp only
    have hno : ¬ (e = 0 ∧ u ≤ 8192 ∧ Sp.psz u * 64 = b.length) → Sp.unwB b = false := fun h => by
      rw [Sp.unwB_eq hg, decide_eq_false fun hh => h hh.2.2.2]; rfl
    refine brc_ine (fun he => errU_14 (hno fun hh => he hh.1)) fun he => brc_igt (fun hu => errU_14 (hno fun hh => by omega)) fun hu => ?_
    subst he
    have hu0 := (Sp.get_ok hbR hg).1
    have eW : W.wrap .i64 u = u := W.wi64_in (by omega) (by omega)
    have hps := Sp.psz_le (n := u) (by omega) (by omega)
    rw [eW, W.mul_i64 (by omega) (by omega)]
    refine ⟨⟨by omega, by omega⟩, brc_ine (fun hp => errU_14 (hno fun hh => hp hh.2.2)) fun hp => ?_⟩
    obtain ⟨_, hn0, hf, _, _⟩ := Sp.unw_fit hb hg hu hp (by omega)
    have hB : Sp.unwB b = Sp.zeros ((b.drop 4).drop (n + u).toNat) := by
      rw [Sp.unwB_eq hg, decide_eq_true ⟨by omega, by omega, by rw [h4]; exact heq, rfl, hu, hp⟩, Bool.true_and]
    have hD := Sp.unwD_eq hg
    have hT : W.take (W.len (b.drop 4)) (b.drop 4) = b.drop 4 := List.take_length
    rw [W.add_i64 (by omega) (by omega), hT]
    have eRl : W.ofNat (W.len (b.drop 4)) = ((b.drop 4).length : Int) := rfl
    refine grd_ile (by omega) (grd_ile (by rw [eRl]; omega) ⟨(b.drop 4, n, n + u, (b.drop 4).drop (n + u).toNat, 0), rfl, ⟨?_, ?_, ?_⟩, fun hz => ?_, fun hz => errU_14 ?_⟩)
    · show ((b.drop 4).drop (n + u).toNat).length < 1000000
      rw [List.length_drop]; omega
    · show (0 : Int) ≤ 0; omega
    · show (0 : Int) ≤ (((b.drop 4).drop (n + u).toNat).length : Int); omega
    · have hz : Sp.zeros ((b.drop 4).drop (n + u).toNat) = true := by
        have : ((b.drop 4).drop (n + u).toNat).drop (Int.toNat 0) = (b.drop 4).drop (n + u).toNat := List.drop_zero
        rw [← this]; exact hz
      have hBt : Sp.unwB b = true := by rw [hB]; exact hz
      have eD : W.drop (W.toNat n) (W.take (W.toNat (n + u)) (b.drop 4)) = Sp.unwD b := by rw [hD]; rfl
      show grd (W.ile 0 (n + u)) (grd (W.ile (n + u) (W.ofNat (W.len (b.drop 4)))) (grd (W.ile 0 n) (grd (W.ile n (W.ofNat (W.toNat (n + u)))) ((W.drop (W.toNat n) (W.take (W.toNat (n + u)) (b.drop 4))).length < 1000000 ∧ ((W.drop (W.toNat n) (W.take (W.toNat (n + u)) (b.drop 4))).length = 0 → TV.tup [T1.c (TC.sl 5 (VT.int .u8) (NL.mk ([] : List Int))), T1.c (TC.a (AV.x (Value.int .i64 0)))] = ctr14.out (b, x)) ∧ ((W.drop (W.toNat n) (W.take (W.toNat (n + u)) (b.drop 4))).length ≠ 0 → TV.tup [T1.own 5 (VT.int .u8) (W.drop (W.toNat n) (W.take (W.toNat (n + u)) (b.drop 4))), T1.c (TC.a (AV.x (Value.int .i64 0)))] = ctr14.out (b, x))))))
      rw [eD]
      refine grd_ile (by omega) (grd_ile (by rw [eRl]; omega) (grd_ile hn0 (grd_ile (by simp only [W.ofNat, W.toNat]; omega) ⟨?_, fun h => okE_14 hBt h, fun h => (congrArg (fun z : List Int => TV.tup [T1.own 5 (VT.int .u8) z, T1.c (TC.a (AV.x (Value.int .i64 0)))]) eD).trans (okU_14 hBt h)⟩)))
      rw [hD, List.length_drop, List.length_take]; omega
    · have : ((b.drop 4).drop (n + u).toNat).drop (Int.toNat 0) = (b.drop 4).drop (n + u).toNat := List.drop_zero
      rw [hB, ← this]; exact hz
theorem goodsR : Goods Try.prog runwL := .cons good13 (.cons (good31 .nil) (.cons (good35 .nil) (.cons (good36 .nil) .nil)))
theorem good15 : GoodC Try.prog ctr15 := by
  refine good_loop (fn := Try.f15) [0, 2, 3, 7, 10] [] (fun i : List Int × Int × Int × Int => ((i.1.length : Int) - i.2.2.2).toNat) wide goodsR ⟨by kernel_rfl, by kernel_rfl, by kernel_rfl, by kernel_rfl⟩ (by kernel_rfl) (by kernel_rfl) (by kernel_rfl) (by kernel_rfl) (n := 79) (ls := [0, 2, 3, 7, 10, 11]) (ks := []) (mk := mk15) (ψ := psi15) (id := 0) ?_ ?_
  · rintro ⟨t, n, f, k⟩ Φ ⟨⟨hl, h0, h1⟩, hT, hF⟩
    refine Eq.mpr (nf15s _ _ _ t n f k Φ _) ?_
    simp only at hl h0 h1 hT hF
    have eL : W.ofNat (W.len t) = (t.length : Int) := rfl
    have eN : W.toNat k = k.toNat := rfl
    have eG : W.nth t k.toNat 0 = t.getD k.toNat 0 := rfl
    rw [eN, eG]
    refine brc_ilt (fun h => ?_) fun h => ?_
    · rw [eL] at h
      have hz := Sp.zeros_step (t := t) (k := k.toNat) (by omega)
      rw [hz] at hT hF
      refine grd_ile h0 (grd_nlt (by simp only [W.len]; omega) (brc_ine (fun hne => ?_) fun heq => ?_))
      · rw [decide_eq_false hne] at hF
        exact hF rfl
      · rw [decide_eq_true heq, Bool.true_and] at hT hF
        rw [W.add_i64 (by omega) (by omega)]
        have e2 : (k + 1).toNat = k.toNat + 1 := by omega
        refine ⟨(t, n, f, k + 1), rfl, ?_, ⟨hl, ?_, ?_⟩, ?_, ?_⟩
        · show ((t.length : Int) - (k + 1)).toNat < ((t.length : Int) - k).toNat; omega
        · show 0 ≤ k + 1; omega
        · show k + 1 ≤ t.length; omega
        · show Sp.zeros (t.drop (k + 1).toNat) = true → _
          rw [e2]; exact hT
        · show Sp.zeros (t.drop (k + 1).toNat) = false → _
          rw [e2]; exact hF
    · rw [eL] at h
      exact hT (Sp.zeros_end (by omega))
  · intro d hd
    obtain ⟨b, x⟩ : List Int × Unit := d
    obtain ⟨hb, hl⟩ : Sp.bytes b ∧ b.length < 1000000 := hd
    refine Eq.mpr (nf15 b _) ?_
    have eL : W.ofNat (W.len b) = (b.length : Int) := rfl
    have eR : W.rem (b.length : Int) 64 = (b.length : Int) % 64 := W.rem_pos (by omega)
    have eZ : Int.ofNat 0 = 0 := rfl
    have eF : Int.ofNat 4 = 4 := rfl
    rw [eL, eR, eZ, eF]
    refine brc_ieq (fun h => errU_15 (Sp.unwB_no (by omega))) fun h => brc_ine (fun h' => errU_15 (Sp.unwB_no (by omega))) fun h' => ?_
    have h4 : Sp.get4 b 0 = (Sp.e4 b 0, 4, 0) := Sp.get4_in (by omega) (by omega)
    have hR : W.drop 4 (W.take (W.len b) b) = b.drop 4 := by
      show (b.take b.length).drop 4 = _
      rw [List.take_length]
    simp only [h4, hR]
    have hbR : Sp.bytes (b.drop 4) := fun x hx => hb x (List.mem_of_mem_drop hx)
    have hlR : (b.drop 4).length = b.length - 4 := List.length_drop
    refine ⟨⟨hb, by omega, by omega, by omega⟩, grd_ile (by omega) ⟨⟨hbR, by omega⟩, brc_ine (fun hne => errU_15 (Sp.unwB_no fun hh => hne (by rw [hh.2.2.1, h4]))) fun heq => ⟨⟨hb, by omega, by omega, by omega⟩, ?_⟩⟩⟩
    rw [Sp.get_drop (by omega)]
    rcases hg : Sp.get (b.drop 4) 0 with ⟨u, n, e⟩
    simp only
    have hno : ¬ (e = 0 ∧ u ≤ 8192 ∧ Sp.psz u * 64 = b.length) → Sp.unwB b = false := fun h => by
      rw [Sp.unwB_eq hg, decide_eq_false fun hh => h hh.2.2.2]; rfl
    refine brc_ine (fun he => errU_15 (hno fun hh => he hh.1)) fun he => brc_igt (fun hu => errU_15 (hno fun hh => by omega)) fun hu => ?_
    subst he
    have hu0 := (Sp.get_ok hbR hg).1
    have eW : W.wrap .i64 u = u := W.wi64_in (by omega) (by omega)
    have hps := Sp.psz_le (n := u) (by omega) (by omega)
    rw [eW, W.quo_i64 (by omega) (by omega) (by omega)]
    refine ⟨⟨by omega, by omega⟩, brc_ine (fun hp => errU_15 (hno fun hh => hp (by omega))) fun hp => ?_⟩
    have hp : Sp.psz u * 64 = b.length := by omega
    obtain ⟨_, hn0, hf, _, _⟩ := Sp.unw_fit hb hg hu hp (by omega)
    have hB : Sp.unwB b = Sp.zeros ((b.drop 4).drop (n + u).toNat) := by
      rw [Sp.unwB_eq hg, decide_eq_true ⟨by omega, by omega, by rw [h4]; exact heq.symm, rfl, hu, hp⟩, Bool.true_and]
    have hD := Sp.unwD_eq hg
    have e1 : (4 + n + u).toNat = 4 + (n + u).toNat := by omega
    have e2 : (4 + n).toNat = 4 + n.toNat := by omega
    rw [W.add_i64 (a := 4) (by omega) (by omega), W.add_i64 (by omega) (by omega)]
    have eDr : b.drop (4 + n + u).toNat = (b.drop 4).drop (n + u).toNat := by rw [e1, Sp.drop4]
    refine ⟨(b, u, 4 + n, 4 + n + u), rfl, ⟨hl, ?_, ?_⟩, fun hz => ?_, fun hz => errU_15 ?_⟩
    · show 0 ≤ 4 + n + u; omega
    · show 4 + n + u ≤ (b.length : Int); omega
    · have hz : Sp.zeros ((b.drop 4).drop (n + u).toNat) = true := by rw [← eDr]; exact hz
      have hBt : Sp.unwB b = true := by rw [hB]; exact hz
      have eD : W.drop (W.toNat (4 + n)) (W.take (W.toNat (4 + n + u)) b) = Sp.unwD b := by
        show (b.take (4 + n + u).toNat).drop (4 + n).toNat = _
        rw [hD, e1, e2, Sp.take_drop4]
      show grd (W.ile 0 (W.add .i64 (4 + n) (W.wrap .i64 u))) (grd (W.ile (W.add .i64 (4 + n) (W.wrap .i64 u)) (W.ofNat (W.len b))) (grd (W.ile 0 (4 + n)) (grd (W.ile (4 + n) (W.ofNat (W.toNat (W.add .i64 (4 + n) (W.wrap .i64 u))))) (grd (W.nle (W.nmul (W.nadd 0 (W.len (W.drop (W.toNat (4 + n)) (W.take (W.toNat (W.add .i64 (4 + n) (W.wrap .i64 u))) b)))) 1) 140737488355328) (TV.tup [T1.own 5 (VT.int .u8) (W.app [] (W.drop (W.toNat (4 + n)) (W.take (W.toNat (W.add .i64 (4 + n) (W.wrap .i64 u))) b))), T1.c (TC.a (AV.x (Value.int .i64 0)))] = ctr15.out (b, x))))))
      rw [eW, W.add_i64 (by omega) (by omega), eD]
      refine grd_ile (by omega) (grd_ile (by rw [eL]; omega) (grd_ile (by omega) (grd_ile (by simp only [W.ofNat, W.toNat]; omega) (grd_nle ?_ ?_))))
      · rw [hD]
        simp only [W.nmul, W.nadd, W.len, List.length_drop, List.length_take]; omega
      · exact (congrArg (fun z : List Int => TV.tup [T1.own 5 (VT.int .u8) z, T1.c (TC.a (AV.x (Value.int .i64 0)))]) eD).trans (okU_15 hBt)
    · rw [hB, ← eDr]; exact hz
/-- PageSizes -/
theorem ieq_yes {a b : Int} (h : a = b) : TV.bool (W.ieq a b) = TV.bool true := by subst h; simp [W.ieq]
def law7 : TCtr := lawC 7 [.v (.int .u16)] (fun (d : Int × Unit) => 0 ≤ d.1 ∧ d.1 < 65536)
theorem good7 : GoodC Try.prog law7 := by
  refine good_plain (fn := Try.f7) wide (.cons good9 (.cons good12 .nil)) ⟨by kernel_rfl, by kernel_rfl, by kernel_rfl, by kernel_rfl⟩ (by kernel_rfl) fun d hd => Blk.un ?_
  obtain ⟨n, x⟩ : Int × Unit := d
  obtain ⟨h0, h1⟩ : 0 ≤ n ∧ n < 65536 := hd
  refine Blk.nf (nf7 n _) ?_
  have e1 : W.rem n 8400 = n % 8400 := W.rem_pos h0
  have e2 : W.wrap .i64 (n % 8400) = n % 8400 := W.wi64_in (by omega) (by omega)
  rw [e1, e2]
  have hk0 : 0 ≤ n % 8400 := by omega
  have hk1 : n % 8400 < 8400 := by omega
  generalize n % 8400 = k at hk0 hk1 ⊢
  rw [W.add_i64 (b := 1) (by omega) (by omega)]
  have hle := Sp.psz_le (n := k) (by omega) (by omega)
  have hlo : k < 128 → (Sp.enc k).length = 1 := fun h => by rw [Sp.enc_low hk0 h]; rfl
  have hhi : 128 ≤ k → (Sp.enc k).length = 2 := fun h => by rw [Sp.enc_high hk0 h, Sp.enc_low (by omega) (by omega)]; rfl
  have hlo1 : k + 1 < 128 → (Sp.enc (k + 1)).length = 1 := fun h => by rw [Sp.enc_low (by omega) h]; rfl
  have hhi1 : 128 ≤ k + 1 → (Sp.enc (k + 1)).length = 2 := fun h => by rw [Sp.enc_high (by omega) h, Sp.enc_low (by omega) (by omega)]; rfl
  have fin : k ≤ 8192 → brc (W.ieq k 8192) (brc (W.ieq (Sp.psz (k + 1)) 0) (TV.bool true = TV.bool true) (brc (W.ilt k 8192) (brc (W.ieq (Sp.psz (k + 1)) (Sp.psz k)) (TV.bool true = TV.bool true) (TV.bool (W.ieq (Sp.psz (k + 1)) (W.add .i64 (Sp.psz k) 1)) = TV.bool true)) (TV.bool false = TV.bool true))) (brc (W.ilt k 8192) (brc (W.ieq (Sp.psz (k + 1)) (Sp.psz k)) (TV.bool true = TV.bool true) (TV.bool (W.ieq (Sp.psz (k + 1)) (W.add .i64 (Sp.psz k) 1)) = TV.bool true)) (TV.bool false = TV.bool true)) := by
    intro hk
    have step : k < 8192 → Sp.psz (k + 1) = Sp.psz k ∨ Sp.psz (k + 1) = Sp.psz k + 1 := by
      intro h
      rw [Sp.psz_in (by omega), Sp.psz_in (by omega)]
      by_cases c1 : k < 128
      · have := hlo c1
        by_cases c2 : k + 1 < 128
        · have := hlo1 c2; omega
        · have := hhi1 (by omega); omega
      · have := hhi (by omega)
        have := hhi1 (by omega); omega
    refine brc_ieq (fun h => brc_ieq (fun _ => rfl) fun h' => absurd (Sp.psz_out (by omega)) h') fun h => brc_ilt (fun h' => brc_ieq (fun _ => rfl) fun h'' => ?_) fun h' => absurd h (by omega)
    rw [W.add_i64 (by omega) (by omega)]
    exact ieq_yes ((step (by omega)).resolve_left h'')
  refine ⟨trivial, ⟨by omega, by omega⟩, ⟨by omega, by omega⟩, brc_igt (fun h => ieq_yes (Sp.psz_out (by omega))) fun h => brc_ige (fun h' => ?_) fun h' => ?_⟩
  · rw [W.add_i64 (a := 6) (by omega) (by omega), W.add_i64 (by omega) (by omega), W.quo_i64 (by omega) (by omega) (by omega)]
    refine brc_ine (fun hne => absurd ?_ hne) fun _ => fin h
    have := hhi h'
    rw [Sp.psz_in (by omega)]; omega
  · rw [W.add_i64 (a := 5) (by omega) (by omega), W.add_i64 (by omega) (by omega), W.quo_i64 (by omega) (by omega) (by omega)]
    refine brc_ine (fun hne => absurd ?_ hne) fun _ => fin h
    have := hlo h'
    rw [Sp.psz_in (by omega)]; omega
end Go.Proofs.Ytbfeilpjkcmfhaa
