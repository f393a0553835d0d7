/-
  Texts of a proof over the translated program: Fm16L.
-/
import Derived.Test.YtfjnopljjnofcaaFm16Lc0
import Derived.Test.YtfjnopljjnofcaaFm16Lc1
import Derived.Test.YtfjnopljjnofcaaFm16Lc2
import Derived.Test.YtfjnopljjnofcaaFm16Lc3
import Derived.Test.YtfjnopljjnofcaaFm16Lc4
import Derived.Test.YtfjnopljjnofcaaFm16Lc5
import Derived.Test.YtfjnopljjnofcaaFm16Lc6
import Derived.Test.YtfjnopljjnofcaaFm16Lc7
import Derived.Test.YtfjnopljjnofcaaFm16Lc8
import Derived.Test.YtfjnopljjnofcaaFm16Lc9
import Derived.Test.YtfjnopljjnofcaaFm16Lc10
import Derived.Test.YtfjnopljjnofcaaFm16Lc11
import Derived.Test.YtfjnopljjnofcaaFm16Lc12
import Derived.Test.YtfjnopljjnofcaaFm16Lc13
import Derived.Test.YtfjnopljjnofcaaFm16Lc14
import Derived.Test.YtfjnopljjnofcaaFm16Lc15
import Derived.Test.YtfjnopljjnofcaaFm16Lc16
import Derived.Test.YtfjnopljjnofcaaFm16Lc17
import Derived.Test.YtfjnopljjnofcaaFm16Lc18
import Derived.Test.YtfjnopljjnofcaaFm16Lc19
import Derived.Test.YtfjnopljjnofcaaFm16Lc20
import Derived.Test.YtfjnopljjnofcaaFm16Lc21
import Derived.Test.YtfjnopljjnofcaaFm16Lc22
import Derived.Test.YtfjnopljjnofcaaFm16Lc23
import Derived.Test.YtfjnopljjnofcaaFm16Lc24
import Derived.Test.YtfjnopljjnofcaaFm16Lc25
import Derived.Test.YtfjnopljjnofcaaFm16Lc26
import Derived.Test.YtfjnopljjnofcaaFm16Lc27
import Derived.Test.YtfjnopljjnofcaaFm16Lc28
import Derived.Test.YtfjnopljjnofcaaFm16Lc29
import Derived.Test.YtfjnopljjnofcaaFm16Lc30
import Derived.Test.YtfjnopljjnofcaaFm16Lc31
import Derived.Test.YtfjnopljjnofcaaFm16Lc32
import Derived.Test.YtfjnopljjnofcaaFm16Lc33
import Derived.Test.YtfjnopljjnofcaaFm16Lc34
set_option maxRecDepth 100000
namespace Go.Proofs.Ytfjnopljjnofcaa
open Go.FM
abbrev Ix := Nat × Bool
def mk (p : Ix) : List HV := [.md .u8 70 p.1, .bool p.2]
theorem all_app {l k : List Ix} (h : (l.map mk).all runs = true) (h2 : (k.map mk).all runs = true) : ((l ++ k).map mk).all runs = true := by
  rw [List.map_append, List.all_append, h, h2]; rfl
def i0_0 : List Ix := [(0, true)]
def i0_1 : List Ix := [(0, false)]
def i0_2 : List Ix := [(10, true)]
def i0_3 : List Ix := [(10, false)]
def i1_0 : List Ix := [(20, true)]
def i1_1 : List Ix := [(20, false)]
def i1_2 : List Ix := [(30, true)]
def i1_3 : List Ix := [(30, false)]
def i2_0 : List Ix := [(40, true)]
def i2_1 : List Ix := [(40, false)]
def i2_2 : List Ix := [(50, true)]
def i2_3 : List Ix := [(50, false)]
def i3_0 : List Ix := [(60, true)]
def i3_1 : List Ix := [(60, false)]
def i3_2 : List Ix := [(1, true)]
def i3_3 : List Ix := [(1, false)]
def i4_0 : List Ix := [(11, true)]
def i4_1 : List Ix := [(11, false)]
def i4_2 : List Ix := [(21, true)]
def i4_3 : List Ix := [(21, false)]
def i5_0 : List Ix := [(31, true)]
def i5_1 : List Ix := [(31, false)]
def i5_2 : List Ix := [(41, true)]
def i5_3 : List Ix := [(41, false)]
def i6_0 : List Ix := [(51, true)]
def i6_1 : List Ix := [(51, false)]
def i6_2 : List Ix := [(61, true)]
def i6_3 : List Ix := [(61, false)]
def i7_0 : List Ix := [(2, true)]
def i7_1 : List Ix := [(2, false)]
def i7_2 : List Ix := [(12, true)]
def i7_3 : List Ix := [(12, false)]
def i8_0 : List Ix := [(22, true)]
def i8_1 : List Ix := [(22, false)]
def i8_2 : List Ix := [(32, true)]
def i8_3 : List Ix := [(32, false)]
def i9_0 : List Ix := [(42, true)]
def i9_1 : List Ix := [(42, false)]
def i9_2 : List Ix := [(52, true)]
def i9_3 : List Ix := [(52, false)]
def i10_0 : List Ix := [(62, true)]
def i10_1 : List Ix := [(62, false)]
def i10_2 : List Ix := [(3, true)]
def i10_3 : List Ix := [(3, false)]
def i11_0 : List Ix := [(13, true)]
def i11_1 : List Ix := [(13, false)]
def i11_2 : List Ix := [(23, true)]
def i11_3 : List Ix := [(23, false)]
def i12_0 : List Ix := [(33, true)]
def i12_1 : List Ix := [(33, false)]
def i12_2 : List Ix := [(43, true)]
def i12_3 : List Ix := [(43, false)]
def i13_0 : List Ix := [(53, true)]
def i13_1 : List Ix := [(53, false)]
def i13_2 : List Ix := [(63, true)]
def i13_3 : List Ix := [(63, false)]
def i14_0 : List Ix := [(4, true)]
def i14_1 : List Ix := [(4, false)]
def i14_2 : List Ix := [(14, true)]
def i14_3 : List Ix := [(14, false)]
def i15_0 : List Ix := [(24, true)]
def i15_1 : List Ix := [(24, false)]
def i15_2 : List Ix := [(34, true)]
def i15_3 : List Ix := [(34, false)]
def i16_0 : List Ix := [(44, true)]
def i16_1 : List Ix := [(44, false)]
def i16_2 : List Ix := [(54, true)]
def i16_3 : List Ix := [(54, false)]
def i17_0 : List Ix := [(64, true)]
def i17_1 : List Ix := [(64, false)]
def i17_2 : List Ix := [(5, true)]
def i17_3 : List Ix := [(5, false)]
def i18_0 : List Ix := [(15, true)]
def i18_1 : List Ix := [(15, false)]
def i18_2 : List Ix := [(25, true)]
def i18_3 : List Ix := [(25, false)]
def i19_0 : List Ix := [(35, true)]
def i19_1 : List Ix := [(35, false)]
def i19_2 : List Ix := [(45, true)]
def i19_3 : List Ix := [(45, false)]
def i20_0 : List Ix := [(55, true)]
def i20_1 : List Ix := [(55, false)]
def i20_2 : List Ix := [(65, true)]
def i20_3 : List Ix := [(65, false)]
def i21_0 : List Ix := [(6, true)]
def i21_1 : List Ix := [(6, false)]
def i21_2 : List Ix := [(16, true)]
def i21_3 : List Ix := [(16, false)]
def i22_0 : List Ix := [(26, true)]
def i22_1 : List Ix := [(26, false)]
def i22_2 : List Ix := [(36, true)]
def i22_3 : List Ix := [(36, false)]
def i23_0 : List Ix := [(46, true)]
def i23_1 : List Ix := [(46, false)]
def i23_2 : List Ix := [(56, true)]
def i23_3 : List Ix := [(56, false)]
def i24_0 : List Ix := [(66, true)]
def i24_1 : List Ix := [(66, false)]
def i24_2 : List Ix := [(7, true)]
def i24_3 : List Ix := [(7, false)]
def i25_0 : List Ix := [(17, true)]
def i25_1 : List Ix := [(17, false)]
def i25_2 : List Ix := [(27, true)]
def i25_3 : List Ix := [(27, false)]
def i26_0 : List Ix := [(37, true)]
def i26_1 : List Ix := [(37, false)]
def i26_2 : List Ix := [(47, true)]
def i26_3 : List Ix := [(47, false)]
def i27_0 : List Ix := [(57, true)]
def i27_1 : List Ix := [(57, false)]
def i27_2 : List Ix := [(67, true)]
def i27_3 : List Ix := [(67, false)]
def i28_0 : List Ix := [(8, true)]
def i28_1 : List Ix := [(8, false)]
def i28_2 : List Ix := [(18, true)]
def i28_3 : List Ix := [(18, false)]
def i29_0 : List Ix := [(28, true)]
def i29_1 : List Ix := [(28, false)]
def i29_2 : List Ix := [(38, true)]
def i29_3 : List Ix := [(38, false)]
def i30_0 : List Ix := [(48, true)]
def i30_1 : List Ix := [(48, false)]
def i30_2 : List Ix := [(58, true)]
def i30_3 : List Ix := [(58, false)]
def i31_0 : List Ix := [(68, true)]
def i31_1 : List Ix := [(68, false)]
def i31_2 : List Ix := [(9, true)]
def i31_3 : List Ix := [(9, false)]
def i32_0 : List Ix := [(19, true)]
def i32_1 : List Ix := [(19, false)]
def i32_2 : List Ix := [(29, true)]
def i32_3 : List Ix := [(29, false)]
def i33_0 : List Ix := [(39, true)]
def i33_1 : List Ix := [(39, false)]
def i33_2 : List Ix := [(49, true)]
def i33_3 : List Ix := [(49, false)]
def i34_0 : List Ix := [(59, true)]
def i34_1 : List Ix := [(59, false)]
def i34_2 : List Ix := [(69, true)]
def i34_3 : List Ix := [(69, false)]
def idx : List Ix := i0_0 ++ (i0_1 ++ (i0_2 ++ (i0_3 ++ (i1_0 ++ (i1_1 ++ (i1_2 ++ (i1_3 ++ (i2_0 ++ (i2_1 ++ (i2_2 ++ (i2_3 ++ (i3_0 ++ (i3_1 ++ (i3_2 ++ (i3_3 ++ (i4_0 ++ (i4_1 ++ (i4_2 ++ (i4_3 ++ (i5_0 ++ (i5_1 ++ (i5_2 ++ (i5_3 ++ (i6_0 ++ (i6_1 ++ (i6_2 ++ (i6_3 ++ (i7_0 ++ (i7_1 ++ (i7_2 ++ (i7_3 ++ (i8_0 ++ (i8_1 ++ (i8_2 ++ (i8_3 ++ (i9_0 ++ (i9_1 ++ (i9_2 ++ (i9_3 ++ (i10_0 ++ (i10_1 ++ (i10_2 ++ (i10_3 ++ (i11_0 ++ (i11_1 ++ (i11_2 ++ (i11_3 ++ (i12_0 ++ (i12_1 ++ (i12_2 ++ (i12_3 ++ (i13_0 ++ (i13_1 ++ (i13_2 ++ (i13_3 ++ (i14_0 ++ (i14_1 ++ (i14_2 ++ (i14_3 ++ (i15_0 ++ (i15_1 ++ (i15_2 ++ (i15_3 ++ (i16_0 ++ (i16_1 ++ (i16_2 ++ (i16_3 ++ (i17_0 ++ (i17_1 ++ (i17_2 ++ (i17_3 ++ (i18_0 ++ (i18_1 ++ (i18_2 ++ (i18_3 ++ (i19_0 ++ (i19_1 ++ (i19_2 ++ (i19_3 ++ (i20_0 ++ (i20_1 ++ (i20_2 ++ (i20_3 ++ (i21_0 ++ (i21_1 ++ (i21_2 ++ (i21_3 ++ (i22_0 ++ (i22_1 ++ (i22_2 ++ (i22_3 ++ (i23_0 ++ (i23_1 ++ (i23_2 ++ (i23_3 ++ (i24_0 ++ (i24_1 ++ (i24_2 ++ (i24_3 ++ (i25_0 ++ (i25_1 ++ (i25_2 ++ (i25_3 ++ (i26_0 ++ (i26_1 ++ (i26_2 ++ (i26_3 ++ (i27_0 ++ (i27_1 ++ (i27_2 ++ (i27_3 ++ (i28_0 ++ (i28_1 ++ (i28_2 ++ (i28_3 ++ (i29_0 ++ (i29_1 ++ (i29_2 ++ (i29_3 ++ (i30_0 ++ (i30_1 ++ (i30_2 ++ (i30_3 ++ (i31_0 ++ (i31_1 ++ (i31_2 ++ (i31_3 ++ (i32_0 ++ (i32_1 ++ (i32_2 ++ (i32_3 ++ (i33_0 ++ (i33_1 ++ (i33_2 ++ (i33_3 ++ (i34_0 ++ (i34_1 ++ (i34_2 ++ (i34_3 ++ [])))))))))))))))))))))))))))))))))))))))))))))))))))))))))))))))))))))))))))))))))))))))))))))))))))))))))))))))))))))))))))))))))))))))))))
theorem all_idx : (idx.map mk).all runs = true := all_app (l := i0_0) c0_0 (all_app (l := i0_1) c0_1 (all_app (l := i0_2) c0_2 (all_app (l := i0_3) c0_3 (all_app (l := i1_0) c1_0 (all_app (l := i1_1) c1_1 (all_app (l := i1_2) c1_2 (all_app (l := i1_3) c1_3 (all_app (l := i2_0) c2_0 (all_app (l := i2_1) c2_1 (all_app (l := i2_2) c2_2 (all_app (l := i2_3) c2_3 (all_app (l := i3_0) c3_0 (all_app (l := i3_1) c3_1 (all_app (l := i3_2) c3_2 (all_app (l := i3_3) c3_3 (all_app (l := i4_0) c4_0 (all_app (l := i4_1) c4_1 (all_app (l := i4_2) c4_2 (all_app (l := i4_3) c4_3 (all_app (l := i5_0) c5_0 (all_app (l := i5_1) c5_1 (all_app (l := i5_2) c5_2 (all_app (l := i5_3) c5_3 (all_app (l := i6_0) c6_0 (all_app (l := i6_1) c6_1 (all_app (l := i6_2) c6_2 (all_app (l := i6_3) c6_3 (all_app (l := i7_0) c7_0 (all_app (l := i7_1) c7_1 (all_app (l := i7_2) c7_2 (all_app (l := i7_3) c7_3 (all_app (l := i8_0) c8_0 (all_app (l := i8_1) c8_1 (all_app (l := i8_2) c8_2 (all_app (l := i8_3) c8_3 (all_app (l := i9_0) c9_0 (all_app (l := i9_1) c9_1 (all_app (l := i9_2) c9_2 (all_app (l := i9_3) c9_3 (all_app (l := i10_0) c10_0 (all_app (l := i10_1) c10_1 (all_app (l := i10_2) c10_2 (all_app (l := i10_3) c10_3 (all_app (l := i11_0) c11_0 (all_app (l := i11_1) c11_1 (all_app (l := i11_2) c11_2 (all_app (l := i11_3) c11_3 (all_app (l := i12_0) c12_0 (all_app (l := i12_1) c12_1 (all_app (l := i12_2) c12_2 (all_app (l := i12_3) c12_3 (all_app (l := i13_0) c13_0 (all_app (l := i13_1) c13_1 (all_app (l := i13_2) c13_2 (all_app (l := i13_3) c13_3 (all_app (l := i14_0) c14_0 (all_app (l := i14_1) c14_1 (all_app (l := i14_2) c14_2 (all_app (l := i14_3) c14_3 (all_app (l := i15_0) c15_0 (all_app (l := i15_1) c15_1 (all_app (l := i15_2) c15_2 (all_app (l := i15_3) c15_3 (all_app (l := i16_0) c16_0 (all_app (l := i16_1) c16_1 (all_app (l := i16_2) c16_2 (all_app (l := i16_3) c16_3 (all_app (l := i17_0) c17_0 (all_app (l := i17_1) c17_1 (all_app (l := i17_2) c17_2 (all_app (l := i17_3) c17_3 (all_app (l := i18_0) c18_0 (all_app (l := i18_1) c18_1 (all_app (l := i18_2) c18_2 (all_app (l := i18_3) c18_3 (all_app (l := i19_0) c19_0 (all_app (l := i19_1) c19_1 (all_app (l := i19_2) c19_2 (all_app (l := i19_3) c19_3 (all_app (l := i20_0) c20_0 (all_app (l := i20_1) c20_1 (all_app (l := i20_2) c20_2 (all_app (l := i20_3) c20_3 (all_app (l := i21_0) c21_0 (all_app (l := i21_1) c21_1 (all_app (l := i21_2) c21_2 (all_app (l := i21_3) c21_3 (all_app (l := i22_0) c22_0 (all_app (l := i22_1) c22_1 (all_app (l := i22_2) c22_2 (all_app (l := i22_3) c22_3 (all_app (l := i23_0) c23_0 (all_app (l := i23_1) c23_1 (all_app (l := i23_2) c23_2 (all_app (l := i23_3) c23_3 (all_app (l := i24_0) c24_0 (all_app (l := i24_1) c24_1 (all_app (l := i24_2) c24_2 (all_app (l := i24_3) c24_3 (all_app (l := i25_0) c25_0 (all_app (l := i25_1) c25_1 (all_app (l := i25_2) c25_2 (all_app (l := i25_3) c25_3 (all_app (l := i26_0) c26_0 (all_app (l := i26_1) c26_1 (all_app (l := i26_2) c26_2 (all_app (l := i26_3) c26_3 (all_app (l := i27_0) c27_0 (all_app (l := i27_1) c27_1 (all_app (l := i27_2) c27_2 (all_app (l := i27_3) c27_3 (all_app (l := i28_0) c28_0 (all_app (l := i28_1) c28_1 (all_app (l := i28_2) c28_2 (all_app (l := i28_3) c28_3 (all_app (l := i29_0) c29_0 (all_app (l := i29_1) c29_1 (all_app (l := i29_2) c29_2 (all_app (l := i29_3) c29_3 (all_app (l := i30_0) c30_0 (all_app (l := i30_1) c30_1 (all_app (l := i30_2) c30_2 (all_app (l := i30_3) c30_3 (all_app (l := i31_0) c31_0 (all_app (l := i31_1) c31_1 (all_app (l := i31_2) c31_2 (all_app (l := i31_3) c31_3 (all_app (l := i32_0) c32_0 (all_app (l := i32_1) c32_1 (all_app (l := i32_2) c32_2 (all_app (l := i32_3) c32_3 (all_app (l := i33_0) c33_0 (all_app (l := i33_1) c33_1 (all_app (l := i33_2) c33_2 (all_app (l := i33_3) c33_3 (all_app (l := i34_0) c34_0 (all_app (l := i34_1) c34_1 (all_app (l := i34_2) c34_2 (all_app (l := i34_3) c34_3 (rfl))))))))))))))))))))))))))))))))))))))))))))))))))))))))))))))))))))))))))))))))))))))))))))))))))))))))))))))))))))))))))))))))))))))))))))
theorem at_idx {p : Ix} (h : idx.contains p = true) : runs (mk p) = true := List.all_eq_true.1 all_idx _ (List.mem_map_of_mem (List.contains_iff_mem.1 h))
end Go.Proofs.Ytfjnopljjnofcaa
