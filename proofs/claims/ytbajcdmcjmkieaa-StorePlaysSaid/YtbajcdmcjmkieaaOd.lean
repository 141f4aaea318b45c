/-
  Walks: what phase.Again, Start and Awake hand over: closures over what was asked. Conditions: what they captured lies in memory; the generation is a small number.
-/
import Derived.Test.YtbajcdmcjmkieaaOc
import Derived.RegionTactic
namespace Go.Proofs.Ytbajcdmcjmkieaa
open Go.RowKit
set_option linter.unusedVariables false

end Go.Proofs.Ytbajcdmcjmkieaa
