/-
  Texts of a proof over the translated program: N1TurnsNf.
-/
import Derived.Test.YtmfegciehdjicaaN1Base
import Derived.Test.YtmfegciehdjicaaLib4
import Derived.Test.YtmfegciehdjicaaN1Zig
set_option linter.unusedVariables false
namespace Go.Proofs.Ytmfegciehdjicaa
open Go.AbsM
def ctr16 : TCtr := .det 16 [.v (.int .i64)] (fun (d : Int × Unit) => -9223372036854775808 ≤ d.1 ∧ d.1 < 9223372036854775808) (fun (d : Int × Unit) => TV.int .u64 (Sp.zig d.1)) fun _ => rfl
def ctr17 : TCtr := .det 17 [.v (.int .i64)] (fun (d : Int × Unit) => -9223372036854775808 ≤ d.1 ∧ d.1 < 9223372036854775808) (fun (d : Int × Unit) => TV.int .u64 (Sp.zig d.1)) fun _ => rfl
def ctr18 : TCtr := .det 18 [.v (.int .u64)] (fun (d : Int × Unit) => 0 ≤ d.1 ∧ d.1 < 18446744073709551616) (fun (d : Int × Unit) => TV.int .i64 (Sp.zag d.1)) fun _ => rfl
def ctr19 : TCtr := .det 19 [.v (.int .u64)] (fun (d : Int × Unit) => 0 ≤ d.1 ∧ d.1 < 18446744073709551616) (fun (d : Int × Unit) => TV.int .i64 (Sp.zag d.1)) fun _ => rfl
def turnL : List TCtr := [trueC 9, ctr16, ctr17, ctr18, ctr19]
theorem nf16 (L : List TCtr) (a : Int) (Q : TV → Prop) : wpFn Try.prog (knownL L noneK noneK) Try.f16 [.c (.a (.x (.int .i64 a)))] Q = (
  Q (TV.int IntKind.u64 (W.xor IntKind.u64 (W.shl IntKind.u64 (W.wrap IntKind.u64 a) (1 : Int)) (W.wrap IntKind.u64 (W.shr IntKind.i64 a (63 : Int)))))) := by kernel_rfl
theorem nf17 (L : List TCtr) (a : Int) (Q : TV → Prop) : wpFn Try.prog (knownL L noneK noneK) Try.f17 [.c (.a (.x (.int .i64 a)))] Q = (
  brc (W.ilt a (0 : Int)) (Q (TV.int IntKind.u64 (W.inv IntKind.u64 (W.shl IntKind.u64 (W.wrap IntKind.u64 a) (1 : Int))))) (Q (TV.int IntKind.u64 (W.shl IntKind.u64 (W.wrap IntKind.u64 a) (1 : Int))))) := by kernel_rfl
theorem nf18 (L : List TCtr) (a : Int) (Q : TV → Prop) : wpFn Try.prog (knownL L noneK noneK) Try.f18 [.c (.a (.x (.int .u64 a)))] Q = (
  Q (TV.int IntKind.i64 (W.xor IntKind.i64 (W.wrap IntKind.i64 (W.shr IntKind.u64 a (1 : Int))) (W.neg IntKind.i64 (W.wrap IntKind.i64 (W.and IntKind.u64 a (1 : Int))))))) := by kernel_rfl
theorem nf19 (L : List TCtr) (a : Int) (Q : TV → Prop) : wpFn Try.prog (knownL L noneK noneK) Try.f19 [.c (.a (.x (.int .u64 a)))] Q = (
  brc (W.ieq (W.and IntKind.u64 a (1 : Int)) (1 : Int)) (Q (TV.int IntKind.i64 (W.wrap IntKind.i64 (W.inv IntKind.u64 (W.shr IntKind.u64 a (1 : Int)))))) (Q (TV.int IntKind.i64 (W.wrap IntKind.i64 (W.shr IntKind.u64 a (1 : Int)))))) := by kernel_rfl
theorem nf5 (a u : Int) (Q : TV → Prop) : wpFn Try.prog (knownL turnL noneK noneK) Try.f5 [.c (.a (.x (.int .i64 a))), .c (.a (.x (.int .u64 u)))] Q = (
  True ∧ ((-9223372036854775808 : Int) ≤ a ∧ a < (9223372036854775808 : Int)) ∧ ((-9223372036854775808 : Int) ≤ a ∧ a < (9223372036854775808 : Int)) ∧ brc (W.ieq (Sp.zig a) (Sp.zig a)) (((0 : Int) ≤ u ∧ u < (18446744073709551616 : Int)) ∧ ((0 : Int) ≤ u ∧ u < (18446744073709551616 : Int)) ∧ brc (W.ieq (Sp.zag u) (Sp.zag u)) (((-9223372036854775808 : Int) ≤ a ∧ a < (9223372036854775808 : Int)) ∧ ((0 : Int) ≤ Sp.zig a ∧ Sp.zig a < (18446744073709551616 : Int)) ∧ brc (W.ieq (Sp.zag (Sp.zig a)) a) (((0 : Int) ≤ u ∧ u < (18446744073709551616 : Int)) ∧ ((-9223372036854775808 : Int) ≤ Sp.zag u ∧ Sp.zag u < (9223372036854775808 : Int)) ∧ brc (W.ieq (Sp.zig (Sp.zag u)) u) (((-9223372036854775808 : Int) ≤ a ∧ a < (9223372036854775808 : Int)) ∧ Q (TV.bool (W.ieq (W.and IntKind.u64 (Sp.zig a) (1 : Int)) (W.shr IntKind.u64 (W.wrap IntKind.u64 a) (63 : Int))))) (Q (TV.bool false))) (Q (TV.bool false))) (Q (TV.bool false))) (Q (TV.bool false))) := by kernel_rfl
end Go.Proofs.Ytmfegciehdjicaa
