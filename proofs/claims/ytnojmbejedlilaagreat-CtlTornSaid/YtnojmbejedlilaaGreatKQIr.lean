/-
  Walk: rutterlaw17.Owner. Conditions: what is known is the call's own row, the rows lie in memory, apart from it.
-/
import Derived.Test.YtnojmbejedlilaaGreatKQIq
set_option maxRecDepth 100000
set_option maxHeartbeats 40000000
set_option linter.unusedVariables false
set_option linter.unusedSimpArgs false
namespace Go.Proofs.YtnojmbejedlilaaGreat
open Go.Value renaming int→U
open Go.IntKind renaming i64→Z
open Go.RowKit
def yY(k r:RV):Prop:=¬(k.po=r.po∧k.ge=r.ge∧k.ow≠r.ow∧0≤r.ow∧0≤k.ow)
def yh(K l:List RV):Prop:=∀(i:Nat) (r:RV),l[i]?=some r→∀k∈K++l.take i,yY k r
def yi(l:List RV):List Value:=l.flatMap fun x=>x.cs.toList
end Go.Proofs.YtnojmbejedlilaaGreat
