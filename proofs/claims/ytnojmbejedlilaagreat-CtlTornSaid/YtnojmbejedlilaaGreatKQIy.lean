/-
  Rows handed back next to what is known; what is known, moved. Conditions: they lie in memory, apart.
-/
import Derived.Test.YtnojmbejedlilaaGreatKQIx
set_option linter.unusedVariables false
set_option linter.unusedSimpArgs false
namespace Go.Proofs.YtnojmbejedlilaaGreat
open Go.Value renaming int→U
open Go.IntKind renaming i64→Z
open Go.RowKit
end Go.Proofs.YtnojmbejedlilaaGreat
