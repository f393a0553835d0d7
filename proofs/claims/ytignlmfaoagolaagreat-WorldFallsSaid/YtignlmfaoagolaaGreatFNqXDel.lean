/-
  Texts of a proof over the translated program: NqXDel.
-/
import Derived.Shelf.SlMaps.DeleteFunc
import Derived.Ground.SlmdProg
import Derived.Deep.QuietTactic
import Derived.BigQuiet
import Derived.Test.YtignlmfaoagolaaGreatProg
import Derived.Test.YtignlmfaoagolaaGreatFFnDel
set_option linter.unusedVariables false
set_option linter.unusedSimpArgs false
set_option linter.unusedSectionVars false
namespace Go.Proofs
open Go.RowKit Go.Maps Go.Shelf Go.FM
def Tryz.delA_ren : Shelf.Ren where
  f := fun x => match x with
    | 5 => 50
    | n => n
  t := fun x => match x with
    | 23 => 106
    | 26 => 3
    | 24 => 133
    | 27 => 142
    | 0 => 0
    | 4 => 4
    | n => n
  g := fun n => n
set_option maxRecDepth 100000 in
theorem Tryz.delA : SlLaysDf.n5 Tryz.prog Tryz.delA_ren where
  mixed := by kernel_rfl
  f5 := ⟨ "maps.DeleteFunc[map[int]*noria/serve.opened,int,*noria/serve.opened]", by decide +kernel, Eq.trans Tryz.func50 (by kernel_rfl)⟩
  t0 := Tryz.underlying0
  a0 := Tryz.isAgg0
  z0 := Tryz.sizeOf0
  v0 := Tryz.zeroValue0
  t4 := Tryz.underlying4
  a4 := Tryz.isAgg4
  z4 := Tryz.sizeOf4
  v4 := Tryz.zeroValue4
  t23 := Tryz.underlying106
  a23 := Tryz.isAgg106
  z23 := Tryz.sizeOf106
  v23 := Tryz.zeroValue106
  a24 := Tryz.isAgg133
  z24 := Tryz.sizeOf133
  a26 := Tryz.isAgg3
  z26 := Tryz.sizeOf3
  t27 := Tryz.underlying142
  a27 := Tryz.isAgg142
  z27 := Tryz.sizeOf142
  v27 := Tryz.zeroValue142
set_option maxHeartbeats 1000000 in
theorem Tryz.clos51 (k : Value) (pb po ib io : Nat) (p id : Int) (W : World) (h1 : W.cell? ⟨pb, po, none⟩ = some (.int .i64 p)) (h2 : W.cell? ⟨ib, io, none⟩ = some (.int .i64 id)) :
    Calls Tryz.prog 51 #[k, .pointer (some ⟨pb, po, none⟩), .pointer (some ⟨ib, io, none⟩)] W fun e w' => e = .returned (.bool (p == id)) ∧ ∃ q, w' = W.drewN q := by
  go_enter Tryz.func51, Tryz.ntmps51
  go_wp2
  go_quiet (fail)
  go_wp2
  go_ret
  exact ⟨rfl, nq, rfl⟩
theorem Tryz.del50 : DelSpec Tryz.prog 50 51 0 3 := by
  intro w b nn kb ko id D0 hown hid
  have eg : ∀ args w, (callFunc 51 args).run Tryz.prog w = .ok (.enter 51 args) w := enters_of Tryz.func51 (by kernel_rfl) rfl
  have hL : Keyed Tryz.prog (Tryz.delA_ren.t 26) := int_keyed Tryz.underlying3
  refine AnyDf.maps_DeleteFunc Tryz.delA hL (ownR w 0) (ownIs id) 51 #[.pointer (some ⟨kb, ko, none⟩)] b nn D0 w eg hown fun W key val kl yd yp hgW hkey hv => ?_
  obtain ⟨pb, po, p, rfl, hlt, hc, hy⟩ := ownR_some hv
  simp only [Prod.mk.injEq] at hy
  obtain ⟨rfl, rfl⟩ := hy
  have hc1 := hgW.cell hc (fun e => cell_ne hown hc (by injection e))
  have hc2 := hgW.cell hid (fun e => cell_ne hown hid (by injection e))
  refine (Tryz.clos51 key pb po kb ko p id W hc1 hc2).mono fun e w' ⟨he, q, hw⟩ => ⟨?_, ?_⟩
  · rw [he]
    show Ending.returned (.bool (p == id)) = .returned (.bool (decide (p = id)))
    congr 2
  · subst hw
    exact ⟨rfl, rfl, rfl, Nat.le_refl _, fun k _ _ => rfl⟩
end Go.Proofs
