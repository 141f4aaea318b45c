/-
  Walk: rutterlaw17.Rises. Conditions: both lists of rows lie in memory.
-/
import Derived.Test.YtnojmbejedlilaaGreatKQIp
import Derived.RegionTactic
import Derived.BigQuiet
set_option maxRecDepth 100000
set_option maxHeartbeats 40000000
set_option linter.unusedVariables false
set_option linter.unusedSimpArgs false
namespace Go.Proofs.YtnojmbejedlilaaGreat
open Go.Value renaming int→U
open Go.IntKind renaming i64→Z
open Go.RowKit
end Go.Proofs.YtnojmbejedlilaaGreat
