/-
  Walk: rutterlaw07.step. Conditions: both are files in memory that have the same; the act's bytes are read in memory.
-/
import Derived.Test.YthljmebhbjeeiaaLe
namespace Go.Proofs.Ythljmebhbjeeiaa
open Go.RowKit
set_option linter.unusedVariables false
set_option linter.unusedSimpArgs false

end Go.Proofs.Ythljmebhbjeeiaa
