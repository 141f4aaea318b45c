/-
  Walks: buf.wide, (*buf.Writer).fail. No condition but the memory that the receiver names.
-/
import Derived.Test.YteipeookmpnemaaRows
import Derived.Test.YteipeookmpnemaaMem
import Derived.WalkKit
import Derived.WalkSpells
import Derived.WalkLawsBesides
import Derived.Lib.Hide
import Derived.RegionTactic
import Derived.ChangeAlike
namespace Go.Proofs.Yteipeookmpnemaa
open Go.RowKit

def wideB (n : Int) : Bool := decide (1 ≤ n) && decide (n ≤ 8)

end Go.Proofs.Yteipeookmpnemaa
