/-
  Walks: the document's Again, Awake, Commit. No condition.
-/
import Derived.Test.YtbajcdmcjmkieaaOk
namespace Go.Proofs.Ytbajcdmcjmkieaa
open Go.RowKit
set_option linter.unusedVariables false

end Go.Proofs.Ytbajcdmcjmkieaa
