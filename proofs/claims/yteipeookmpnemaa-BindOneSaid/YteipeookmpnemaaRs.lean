/-
  Walks: the document's reader: (*rutterref01.Reader).Bytes, Rest, Done. Conditions: the receiver is such a reader in memory.
-/
import Derived.Test.YteipeookmpnemaaRr
import Derived.Test.YteipeookmpnemaaGen
namespace Go.Proofs.Yteipeookmpnemaa
open Go.RowKit

/-- What a call leaves that hands back bytes in new memory. -/
def GaveN (T : TypeId) (w : World) (p : Nat) (S : Nat → Prop) (r : List UInt8 × Option (List UInt8)) (e : Ending) (w' : World) : Prop :=
  ∃ A k c, e = .returned (.slice A k c) ∧ k = r.1.length ∧ Rds w' (fun k => w.heap.size ≤ k) A k (bcs r.1) ∧ Rd T false w' p S r.2 ∧ Chg (fun k => k = p) w w'

end Go.Proofs.Yteipeookmpnemaa
