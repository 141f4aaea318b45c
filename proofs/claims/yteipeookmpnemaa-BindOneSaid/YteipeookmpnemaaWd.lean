/-
  Walks: (*buf.Writer).Bytes on any writer. Conditions: the receiver is a writer in memory or nil, its bytes and what is written are bounded.
-/
import Derived.Test.YteipeookmpnemaaWc
namespace Go.Proofs.Yteipeookmpnemaa
open Go.RowKit

theorem rds_one (w : World) (t : TypeId) (x : Int) : Rds (w.alloc (.cells #[.int .i64 x] t)) (fun k => k = w.heap.size) (some ⟨w.heap.size, 0, none⟩) 1 (ics [x]) := (Blk.new w t #[.int .i64 x]).rds

end Go.Proofs.Yteipeookmpnemaa
