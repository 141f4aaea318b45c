/-
  Walk: rutterlaw07.step. Conditions: both are files in memory that have the same; the act's bytes are read in memory.
-/
import Derived.Test.YtnojmbejedlilaaGreatKQM5
set_option linter.unusedVariables false
set_option linter.unusedSimpArgs false
namespace Go.Proofs.YtnojmbejedlilaaGreat
open Go.Value renaming int→U
open Go.IntKind renaming i64→Z
open Go.RowKit
end Go.Proofs.YtnojmbejedlilaaGreat
