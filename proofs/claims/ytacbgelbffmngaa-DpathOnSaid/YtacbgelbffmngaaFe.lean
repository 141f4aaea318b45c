/-
  Walk: ether.Decode. Conditions: the bytes are read in memory.
-/
import Derived.Test.YtacbgelbffmngaaM1
namespace Go.Proofs.Ytacbgelbffmngaa
open Go.RowKit
set_option linter.unusedVariables false

end Go.Proofs.Ytacbgelbffmngaa
