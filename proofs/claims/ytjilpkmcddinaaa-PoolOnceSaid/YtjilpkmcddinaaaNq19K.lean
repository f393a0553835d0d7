/-
  Texts of a proof over the translated program: Nq19K.
-/
import Derived.Test.YtjilpkmcddinaaaNq19A
set_option maxRecDepth 100000
namespace Go.Proofs.Ytjilpkmcddinaaa
open Go.FM
theorem known : isTrue (callX Try.prog 8 10000000 ext0 60 7 [] .nil 0) = true := by decide +kernel
end Go.Proofs.Ytjilpkmcddinaaa
