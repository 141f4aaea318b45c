/-
  Walks: bytes.Equal, ether.Same, rutterref02.Same. Conditions: the bytes are read in memory.
-/
import Derived.Test.YteipeookmpnemaaFb
namespace Go.Proofs.Yteipeookmpnemaa
open Go.RowKit
set_option linter.unusedVariables false

/-- Have two frames the same? -/
def sameB (d s t : Int) (l : List UInt8) (d2 s2 t2 : Int) (l2 : List UInt8) : Bool := d == d2 && (s == s2 && (t == t2 && l == l2))
end Go.Proofs.Yteipeookmpnemaa
