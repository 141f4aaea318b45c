/-
  Walks: (*buf.Reader).Get. Conditions: the receiver is a reader in memory or nil.
-/
import Derived.Test.YteipeookmpnemaaRa
import Derived.Laws.ShiftsVar
namespace Go.Proofs.Yteipeookmpnemaa
open Go.RowKit

theorem ret_num {a b : Int} (h : a = b) : Ending.returned (.int .i64 a) = .returned (.int .i64 b) := by rw [h]

end Go.Proofs.Yteipeookmpnemaa
