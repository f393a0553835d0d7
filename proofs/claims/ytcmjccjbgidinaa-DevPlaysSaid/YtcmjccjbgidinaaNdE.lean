/-
  Texts of a proof over the translated program: NdE.
-/
import Derived.Test.YtcmjccjbgidinaaNdD
import Derived.ScopeJumps
import Derived.Deep.RegionHeld3
set_option linter.unusedVariables false
set_option linter.unnecessarySimpa false
set_option linter.unusedSimpArgs false
namespace Go.Proofs
open Go.RowKit
set_option maxRecDepth 100000
/-- What lasts when those of the writes that wait are laid down that kp tells. -/
def dset (kp : Nat → Bool) : Nat → List (Nat × List UInt8) → List UInt8 → List UInt8
  | _, [], L => L
  | j, q :: Q, L => dset kp (j + 1) Q (if kp j then L.take (q.1 * 64) ++ (q.2 ++ L.drop (q.1 * 64 + 64)) else L)
/-- Where a device's lasting bytes have turned. -/
theorem DW.lay {w w' : World} {F : Nat → Prop} {d k lb cl tb ct : Nat} {vw : Value} {ds : List (Nat × Nat)} {L L' T : List UInt8} {Q : List (Nat × List UInt8)} (hd : DW w F d k lb cl tb ct vw ds L T Q) (ho : Only w w' lb) (hb : BY w' lb L' cl) (hl : L'.length = 64 * k) :
    DW w' F d k lb cl tb ct vw ds L' T Q := by
  refine ⟨fun b h => by rw [ho.size]; exact hd.lt b h, (ho.block d hd.dl).trans hd.here, hd.fd, hd.fl, hd.ft, hd.dl, hd.dt, hd.lt', hd.hk, hl, hd.Tl, hb, hd.bt.congr (ho.block tb hd.lt'.symm), hd.cl', hd.ct', ?_, hd.fw, ?_⟩
  · exact own_stay hd.ow (fun b hb => ho.block b (hd.fw b hb).2.2.1)
  · refine AllW.stay (fun b q => q) (fun b q1 q2 => ⟨ho.block b (fun e => q2 (by simp [e])), q2⟩) _ _ hd.al
theorem DW.drewN {w : World} {F : Nat → Prop} {d k lb cl tb ct : Nat} {vw : Value} {ds : List (Nat × Nat)} {L T : List UInt8} {Q : List (Nat × List UInt8)} (hd : DW w F d k lb cl tb ct vw ds L T Q) : DW w.drew F d k lb cl tb ct vw ds L T Q :=
  ⟨hd.lt, hd.here, hd.fd, hd.fl, hd.ft, hd.dl, hd.dt, hd.lt', hd.hk, hd.Ll, hd.Tl, hd.bl, hd.bt, hd.cl', hd.ct', hd.ow, hd.fw, by
    have := hd.al
    refine AllW.stay (w := w) (w' := w.drew) (fun b q => q) (fun b q1 q2 => ⟨rfl, q2⟩) _ _ this⟩
/-- Where nothing waits any more. -/
theorem DW.clear {w : World} {F : Nat → Prop} {d k lb cl tb ct : Nat} {vw : Value} {ds : List (Nat × Nat)} {L T : List UInt8} {Q : List (Nat × List UInt8)} (hd : DW w F d k lb cl tb ct vw ds L T Q) :
    DW (w.setCell ⟨d, 2, none⟩ (.slice none 0 0)) F d k lb cl tb ct (.slice none 0 0) [] L T [] := by
  have hb : ∀ b, b ≠ d → (w.setCell ⟨d, 2, none⟩ (.slice none 0 0)).heap[b]? = w.heap[b]? := fun b h => Below.heap_setCell _ _ _ _ h
  refine ⟨fun b h => by simpa [World.setCell] using hd.lt b h, ?_, hd.fd, hd.fl, hd.ft, hd.dl, hd.dt, hd.lt', hd.hk, hd.Ll, hd.Tl, hd.bl.congr (hb lb hd.dl.symm), hd.bt.congr (hb tb hd.dt.symm), hd.cl', hd.ct', World.ownsRow_nil _ _ _ _, fun b h => by simp [vblk] at h, trivial⟩
  rw [heap_setCell_same w d 2 _ 71 _ hd.here]; rfl

/-- One pass of settle. -/
structure SRel (w : World) (F : Nat → Prop) (d k lb cl tb ct : Nat) (vw : Value) (ds : List (Nat × Nat)) (L T : List UInt8) (Q : List (Nat × List UInt8)) (kp : Nat → Bool) (j : Nat) (Lj : List UInt8) (wr : World) : Prop where
  le : j ≤ Q.length
  dw : DW wr F d k lb cl tb ct vw ds Lj T Q
  to : dset kp j (Q.drop j) Lj = dset kp 0 Q L
  ch : Chg w wr (· = lb)
theorem SRel.next {w w1 wr : World} {F : Nat → Prop} {d k lb cl tb ct : Nat} {vw : Value} {ds : List (Nat × Nat)} {L T : List UInt8} {Q : List (Nat × List UInt8)} {kp : Nat → Bool} {j : Nat} {Lj : List UInt8}
    (h : SRel w F d k lb cl tb ct vw ds L T Q kp j Lj wr) (hj : j < Q.length) (hk : kp j = true) (ho : Only wr w1 lb) (hb : BY w1 lb (Lj.take ((Q[j]).1 * 64) ++ ((Q[j]).2 ++ Lj.drop ((Q[j]).1 * 64 + 64))) cl) :
    SRel w F d k lb cl tb ct vw ds L T Q kp (j + 1) (Lj.take ((Q[j]).1 * 64) ++ ((Q[j]).2 ++ Lj.drop ((Q[j]).1 * 64 + 64))) w1 := by
  obtain ⟨x, h1, ⟨h2, h3, h4, h5, h6, h7⟩, _⟩ := AllW.get _ _ h.dw.al j hj
  have hL := h.dw.Ll
  refine ⟨by omega, h.dw.lay ho hb (by simp [h4]; omega), ?_, h.ch.trans (Chg.only ho)⟩
  rw [← h.to, List.drop_eq_getElem_cons hj]
  simp only [dset, hk, if_true]
theorem SRel.skip {w wr : World} {F : Nat → Prop} {d k lb cl tb ct : Nat} {vw : Value} {ds : List (Nat × Nat)} {L T : List UInt8} {Q : List (Nat × List UInt8)} {kp : Nat → Bool} {j : Nat} {Lj : List UInt8}
    (h : SRel w F d k lb cl tb ct vw ds L T Q kp j Lj wr) (hj : j < Q.length) (hk : kp j = false) : SRel w F d k lb cl tb ct vw ds L T Q kp (j + 1) Lj wr := by
  refine ⟨by omega, h.dw, ?_, h.ch⟩
  rw [← h.to, List.drop_eq_getElem_cons hj]
  simp only [dset, hk]
  rfl
/-- What settle leaves. -/
def Settled (w : World) (F : Nat → Prop) (d k lb cl tb ct : Nat) (L T : List UInt8) (e : Ending) (w' : World) : Prop :=
  e = .returned (.tuple #[]) ∧ DW w' F d k lb cl tb ct (.slice none 0 0) [] L T [] ∧ Chg w w' (fun b => b = lb ∨ b = d)
theorem SRel.done {w wr : World} {F : Nat → Prop} {d k lb cl tb ct : Nat} {vw : Value} {ds : List (Nat × Nat)} {L T : List UInt8} {Q : List (Nat × List UInt8)} {kp : Nat → Bool} {Lj : List UInt8}
    (h : SRel w F d k lb cl tb ct vw ds L T Q kp Q.length Lj wr) : Settled w F d k lb cl tb ct (dset kp 0 Q L) T (.returned (.tuple #[])) (wr.setCell ⟨d, 2, none⟩ (.slice none 0 0)) := by
  have e := h.to
  rw [List.drop_length] at e
  simp only [dset] at e
  subst e
  exact ⟨rfl, h.dw.clear, (h.ch.mono (fun b q => .inl q)).trans ((Chg.setCell _ _ _).mono (fun b q => .inr q))⟩
theorem Try.at0 (g n m : Nat) (i : Nat) (hn : n ≤ 65536) (hi : i < n / 64) (hm : n ≤ m) (w : World) :
    Calls Try.prog 38 #[.slice (some ⟨g, 0, none⟩) n m, .int .i64 i] w fun e w' => e = .returned (.slice (some ⟨g, i * 64, none⟩) 64 (m - i * 64)) ∧ w = w' := by
  have := Try.at g 0 n m i hn hi hm w
  rwa [Nat.zero_add] at this
theorem step_copy_by {P : Program} {ops : Array Oper} {o : Oper} {a : Act} {w : World} {K : Act → World → Prop} {Q : Exit → Act → World → Prop} {E : Prop} (hgd : o.guard = none) (d s : Operand) (dT sT : TypeId)
    (ho : o.op = .call { callee := .builtin .copy, args := #[d, s], argTypes := #[dT, sT] }) (hu : P.underlying dT = some (.slice 5)) (hsz : (P.info? 5).map (·.size) = some 1)
    (g off c : Nat) (T : List UInt8) (n dCap : Nat) (A : Addr) (m : Nat) (bb : List UInt8) (hd : a.eval d = .slice (some ⟨g, off, none⟩) n dCap) (hs : a.eval s = .slice (some A) n m)
    (hg : BY w g T c) (hl : bb.length = n) (hc : ∀ j u, (bb.map u8v)[j]? = some u → w.cell? (A.add j) = some u) (hfit : off + n ≤ T.length)
    (h : ∀ w', BY w' g (T.take off ++ (bb ++ T.drop (off + n))) c → Only w w' g → K (a.put o.dst (goInt n)) w') : if Region.wanted o (yielded ops a.tmps) = true then Oper.wp P o a w K Q else E := by
  refine step_open hgd ?_
  obtain ⟨w', hrun, h1, h2⟩ := run_copy_by (P := P) w dT sT o.type hu hsz g off c T hg n dCap A m bb hl hc hfit
  unfold Oper.wp
  simp [execOp, ho, resolve, invoke, builtin, hd, hs, hrun, Result.andThen]
  exact h w' h1 h2
/-- A scope that begins with some code, then the label: one pass, proved once. -/
theorem wp_scope_label {P : Program} {A R : Code} {a : Act} {w : World} {Q : Exit → Act → World → Prop} (l : Nat) (J : Act → World → Prop) (μ : Act → World → Nat) (hf : findLabel (A.seq ((Code.label l).seq R)) l = some (Code.skip.seq R))
    (pre : A.wp P (Exit.then J (fun _ _ _ => False)) a w) (pass : ∀ a w, J a w → R.wp P (Exit.jump l (fun a' w' => J a' w' ∧ μ a' w' < μ a w) Q) a w) : (Code.scope (A.seq ((Code.label l).seq R))).wp P Q a w := by
  refine wp_scope_jumps l J μ hf (wp_seq (Code.wp_mono ?_ pre)) (fun a w h => wp_seq (wp_skip (pass a w h)))
  intro e a' w' h
  cases e <;> first | exact h.elim | skip
  refine wp_seq (wp_label (Code.wp_mono ?_ (pass a' w' h)))
  intro e a2 w2 h2
  cases e <;> first | exact h2 | exact ⟨h2.1, h2.2.1⟩
set_option maxHeartbeats 8000000 in
theorem Try.settle (w : World) (F : Nat → Prop) (d k lb cl tb ct : Nat) (vw : Value) (ds : List (Nat × Nat)) (L T : List UInt8) (Q : List (Nat × List UInt8)) (hd : DW w F d k lb cl tb ct vw ds L T Q) (hQ : Q.length ≤ 1000000)
    (cf : Nat) (cap : Array Value) (kp : Nat → Bool) (hcf : ∀ (v : Value) (w : World), (callFunc cf (#[v] ++ cap)).run Try.prog w = .ok (.enter cf (#[v] ++ cap)) w) (hcl : ∀ (j : Nat) (wr : World), j < Q.length → Chg w wr (· = lb) → Calls Try.prog cf (#[.int .i64 j] ++ cap) wr fun e w' => e = .returned (.bool (kp j)) ∧ wr = w') :
    Calls Try.prog 41 #[.pointer (some ⟨d, 0, none⟩), .func (.func cf) #[] cap] w (Settled w F d k lb cl tb ct (dset kp 0 Q L) T) := by
  have H0 : Hid (SRel w F d k lb cl tb ct vw ds L T Q kp 0 L w) := Lib.hid ⟨Nat.zero_le _, hd, rfl, Chg.refl _ _⟩
  clear hd
  go_enter Try.func41, Try.ntmps41
  go_wp2
  refine wp_scope_label 0 (fun a wr => ∃ (j : Nat) (Lj : List UInt8), SRel w F d k lb cl tb ct vw ds L T Q kp j Lj wr ∧ ∃ u2 u3 u5 u6 u7 u8 u9 u10 u11 u12 u13 u14 u15 u16 u17 u18 u19 u20 u21 u22 u23 u24 u25 u26 u27 u28 u29 u30 u31 u32 u33 u34 u35 u36 u37 u38 u39 u40 u41 : Value, a = { tmps := #[.pointer (some ⟨d, 0, none⟩), .func (.func cf) #[] cap, u2, u3, .int .i64 j, u5, u6, u7, u8, u9, u10, u11, u12, u13, u14, u15, u16, u17, u18, u19, u20, u21, u22, u23, u24, u25, u26, u27, u28, u29, u30, u31, u32, u33, u34, u35, u36, u37, u38, u39, u40, u41], defers := [] }) (fun a' _ => Q.length - (intOf (a'.tmps.getD 4 undef)).toNat) rfl ?_ ?_
  · go_wp2
    exact ⟨0, L, H0.out, _, _, _, _, _, _, _, _, _, _, _, _, _, _, _, _, _, _, _, _, _, _, _, _, _, _, _, _, _, _, _, _, _, _, _, _, _, _, _, rfl⟩
  · rintro a' wr ⟨j, Lj, hR, u2, u3, u5, u6, u7, u8, u9, u10, u11, u12, u13, u14, u15, u16, u17, u18, u19, u20, u21, u22, u23, u24, u25, u26, u27, u28, u29, u30, u31, u32, u33, u34, u35, u36, u37, u38, u39, u40, u41, rfl⟩
    have hws := own_slice hR.dw.ow
    by_cases hlt : j < Q.length
    · obtain ⟨x, x1, ⟨x2, x3, x4, x5, x6, x7⟩, x8, x9⟩ := AllW.get _ _ hR.dw.al j hlt
      obtain ⟨wb, wc, hvw, hwl⟩ : ∃ wb wc, vw = .slice (some ⟨wb, 0, none⟩) Q.length wc ∧ ∀ i u, (wCells Q ds)[i]? = some u → wr.cell? ⟨wb, i, none⟩ = some u := by
        rcases hR.dw.ow.2 with ⟨_, h0⟩ | ⟨g, cp, cur, hv, _⟩
        · omega
        · refine ⟨g, cp, hv, fun i u hu => ?_⟩
          have := hR.dw.ow.cells (g := g) (by rw [hv]; rfl) i u hu
          rwa [add_none, Nat.zero_add] at this
      subst hvw
      have q1 := hwl _ _ x8
      have q2 := hwl _ _ x9
      rw [Nat.mul_comm 2 j] at q1 q2
      have c0 := hR.dw.c0
      have c2 := hR.dw.c2
      have hk := hR.dw.hk
      have hcl' := hR.dw.cl'
      have h16 : 64 * k ≤ 65536 := by omega
      have hin : (Q[j]).1 < 64 * k / 64 := by omega
      have hD : decide ((j : Int) = Q.length) = false := by simp; omega
      have hD2 : ((j : Int) == Q.length) = false := by simp; omega
      have HR := Lib.hid hR
      have h5 : (Try.prog.info? 5).map (·.size) = some 1 := by kernel_rfl
      have HL := Lib.hid hR.dw.Ll
      have x6a := x6.all
      clear hR hwl x8 x9 hws
      have HC := Lib.hid (hcl j wr hlt (HR.out).ch)
      cases hkp : kp j
      · have HN := Lib.hid ((HR.out).skip hlt hkp)
        have HK := Lib.hid hkp
        clear hkp
        go_wp2_with fail
        refine (HC.out).mono ?_
        rw [HK.out]
        rintro e w' ⟨rfl, rfl⟩
        go_wp2
        go_step3
        exact ⟨rfl, ⟨j + 1, _, HN.out, _, _, _, _, _, _, _, _, _, _, _, _, _, _, _, _, _, _, _, _, _, _, _, _, _, _, _, _, _, _, _, _, _, _, _, _, _, _, _, rfl⟩, by simp [intOf]; omega⟩
      · have HN0 := Lib.hid (fun w1 => (HR.out).next (w1 := w1) hlt hkp)
        have HK := Lib.hid hkp
        clear hkp
        go_wp2_with fail
        refine (HC.out).mono ?_
        rw [HK.out]
        rintro e w' ⟨rfl, rfl⟩
        go_wp2
        have g1 : BY wr.drew lb Lj cl := (HR.out).dw.bl
        have G1 := Lib.hid g1
        have x6d : ∀ i u, (((Q[j]).2).map u8v)[i]? = some u → wr.drew.cell? ((⟨x.1, 0, none⟩ : Addr).add i) = some u := x6a
        have hfit : (Q[j]).1 * 64 + 64 ≤ Lj.length := by rw [HL.out]; omega
        clear g1 x6a
        have hdl : d ≠ lb := (HR.out).dw.dl
        have hwl' : wb ≠ lb := ((HR.out).dw.fw wb (by simp [vblk])).2.2.1
        have C0 := Lib.hid c0
        have C2 := Lib.hid c2
        have Q1 := Lib.hid q1
        have Q2 := Lib.hid q2
        go_region_held3 (fun W => W.cell? ⟨d, 0, none⟩ = some (.slice (some ⟨lb, 0, none⟩) (64 * k) cl) ∧ W.cell? ⟨d, 2, none⟩ = some (.slice (some ⟨wb, 0, none⟩) Q.length wc) ∧ W.cell? ⟨wb, j * 2, none⟩ = some (.int .i64 ((Q[j]).1 : Int)) ∧ W.cell? ⟨wb, j * 2 + 1, none⟩ = some (.slice (some ⟨x.1, 0, none⟩) 64 x.2)) (first | exact ⟨r0, r1, r2, r3⟩ | exact ⟨C0.out, C2.out, Q1.out, Q2.out⟩) (first
          | (refine step_open rfl ?_; go_simp; go_at_call 38; refine (Try.at0 lb (64 * k) cl (Q[j]).1 h16 hin hcl' _).mono ?_; rintro e w' ⟨rfl, rfl⟩; dsimp only)
          | (refine step_copy_by rfl (.tmp 30) (.tmp 38) 31 31 rfl Try.underlying31 h5 lb ((Q[j]).1 * 64) cl Lj 64 _ ⟨x.1, 0, none⟩ _ ((Q[j]).2) rfl rfl G1.out x4 x6d hfit ?_; intro w1 hb1 ho1
             have r0 := (ho1.cell (A := ⟨d, 0, none⟩) hdl).trans C0.out
             have r1 := (ho1.cell (A := ⟨d, 2, none⟩) hdl).trans C2.out
             have r2 := (ho1.cell (A := ⟨wb, j * 2, none⟩) hwl').trans Q1.out
             have r3 := (ho1.cell (A := ⟨wb, j * 2 + 1, none⟩) hwl').trans Q2.out))
        all_goals
          have HN := Lib.hid (HN0.out _ ⟨ho1.os, ho1.tape, ho1.output, ho1.size, ho1.block⟩ hb1)
          clear hb1 ho1 r0 r1 r2 r3
          go_wp2
          go_step3
          exact ⟨rfl, ⟨j + 1, _, HN.out, _, _, _, _, _, _, _, _, _, _, _, _, _, _, _, _, _, _, _, _, _, _, _, _, _, _, _, _, _, _, _, _, _, _, _, _, _, _, _, rfl⟩, by simp [intOf]; omega⟩
    · obtain rfl : j = Q.length := by have := hR.le; omega
      obtain ⟨A, wc, rfl⟩ := hws
      have c2 := hR.dw.c2
      have f2 := frozen_of_row wr d 2 _ 71 hR.dw.here
      have hD : decide ((Q.length : Int) = Q.length) = true := by simp
      have H1 := Lib.hid (hR.done)
      clear hR
      go_wp2
      simp only [Exit.jump]
      refine bodyPost_ret (results_none rfl _ _ _) rfl ?_
      exact H1.out

end Go.Proofs
