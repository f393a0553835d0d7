/-
  Texts of a proof over the translated program: FnHook.
-/
import Derived.Test.YtignlmfaoagolaaGreatLib7
import Derived.Test.YtignlmfaoagolaaGreatFnGood
set_option linter.unusedVariables false
set_option linter.unusedSimpArgs false
set_option linter.unusedSectionVars false
namespace Go.FM
noncomputable section
open Go.AbsM (GoodC trueC TCtr ArgsOk Arg law_calls t1s T1)
open Go.RowKit (Below)
section
variable [Env]
variable {Pr : Program} {D : Nat} {g : Gm} {c : Nat} {w w' : World}
theorem GoodC.calls {ct : TCtr} (h : GoodC Pr ct) (d) (hp : ct.pre d) {v0 : Value} (ho : (ct.out d).emb [] = .x v0) (w : World) (vs : List Value) (hargs : ArgsOk Pr w ((t1s ct.sig d).map (T1.emb [])) vs) :
    Calls Pr ct.f vs.toArray w fun e w' => e = .returned v0 ∧ Below w.heap.size w w' := by
  obtain ⟨q1, q2⟩ := hargs.get
  have hc := h.call d hp []
  rw [ho] at hc
  exact law_calls hc q1 q2
theorem flat_ints (k : IntKind) : ∀ l : List Int, Go.AbsM.flat (l.map (Value.int k)) = l.map (Value.int k)
  | [] => rfl
  | a :: l => by rw [List.map_cons, Go.AbsM.flat_cons, flat_ints k l]; rfl
omit [Env] in
def bytI (n d : Nat) : List Int := (bytesOf n d).map fun b => (b.toNat : Int)
theorem body_arg {h : HT} (hi : HOk D g h c w) {k o n : Nat} {cl : Bool} {v : Value} {e : TypeId} (he : Pr.cellsOf e = 1) {q d : Nat} (hx : TRep g c (.slc k o n 1 cl) v) (hb : (HT.get D k h).body = .byt q d) (hq : o + n ≤ q) :
    Arg Pr w (.sl e ((bytI n (bCut d o n)).map (Go.AbsM.AV.int .u8))) v := by
  obtain ⟨hk, A, m, e1, hnm, hmm, hes, hlen, hbs, hfull, hcl, hA⟩ := hx
  subst e1
  obtain ⟨us, h1, ⟨h2, h2'⟩, h3, h4⟩ := (hi.body hk.1 hb (by simp)).cells
  have hcut := bytesOf_cut q d o n hq
  have hnl : (bytI n (bCut d o n)).length = n := by simp [bytI, bytesOf_length]
  have hlt : (g k).b < w.heap.size := (hi.body hk.1 hb (by simp)).lt
  refine .sl (us := (bytI n (bCut d o n)).map (Value.int .u8)) (by simp [hnl]) (by simp) (by simp [hnl]; exact hnm) hmm (by omega) (fun i x u hx hu => ?_) (fun u hu => ?_) fun hne => ?_
  · simp only [List.getElem?_map, Option.map_eq_some_iff] at hx hu
    obtain ⟨z, h5, rfl⟩ := hx
    obtain ⟨y, h6, rfl⟩ := hu
    rw [h5] at h6
    simp only [Option.some.injEq] at h6; subst h6
    exact .x rfl
  · obtain ⟨y, _, rfl⟩ := List.mem_map.1 hu
    rw [he]; rfl
  · have hn0 : 0 < n := by
      rcases Nat.eq_zero_or_pos n with h0 | h0
      · subst h0
        have : bytI 0 (bCut d o 0) = [] := List.eq_nil_of_length_eq_zero hnl
        rw [this] at hne; exact absurd rfl hne
      · exact h0
    refine ⟨(g k).b, (g k).o + o, by rw [hA (by omega)]; rfl, fun j cv hj => ?_⟩
    have hf : Go.AbsM.flat ((bytI n (bCut d o n)).map (Value.int .u8)) = (bytI n (bCut d o n)).map (Value.int .u8) := flat_ints _ _
    rw [hf] at hj
    refine ⟨?_, hlt⟩
    rw [Nat.add_assoc]
    refine h4 (o + j) cv ?_
    rw [h2', List.getElem?_map]
    have hjn : j < n := by
      have := (List.getElem?_eq_some_iff.1 hj).1
      simpa [hnl] using this
    simp only [bytI, List.map_map, List.getElem?_map] at hj
    rw [hcut, List.getElem?_take, if_pos hjn, List.getElem?_drop] at hj
    exact hj
end
end
end Go.FM
