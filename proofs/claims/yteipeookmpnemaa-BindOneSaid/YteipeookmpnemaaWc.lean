/-
  Walks: (*buf.Writer).Put, Bytes, Done on any writer, slices.Clone of bytes. Conditions: the receiver is a writer in memory or nil, its bytes and what is written are bounded.
-/
import Derived.Test.YteipeookmpnemaaWb
namespace Go.Proofs.Yteipeookmpnemaa
open Go.RowKit

theorem rds_new1 (w : World) (t : TypeId) (cs : Array Value) (fr : Nat × Nat) (g : Nat) (hg : g = w.heap.size) (xs : List Value) (n : Nat) (hx : xs = cs.toList) (hn : n = cs.size) :
    Rds (w.alloc (.cells cs t fr)) (fun k => k = g) (some ⟨g, 0, none⟩) n xs := by
  subst hg
  subst hx
  subst hn
  exact rds_alloc w t cs fr

end Go.Proofs.Yteipeookmpnemaa
