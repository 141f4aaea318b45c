/-
  Walks: the closures of arp.announcers, rutterlaw03.Of, rutterref03.Right, and the plain functions of an arp. Conditions: what a closure captured is an arp in memory.
-/
import Derived.Test.YteipeookmpnemaaFb
import Derived.Test.YteipeookmpnemaaGen
import Derived.Test.YteipeookmpnemaaSpb
namespace Go.Proofs.Yteipeookmpnemaa
open Go.RowKit
set_option linter.unusedVariables false

/-- An arp's cells. -/
def arpC (op sha tha spa tpa : Int) : Array Value := #[.int .i64 op, .int .u64 sha, .int .u64 tha, .int .u32 spa, .int .u32 tpa]
/-- May an arp be? -/
def arpR (op sha tha : Int) : Bool := decide (0 ≤ op) && (decide (op ≤ 65535) && (decide (sha ≤ 281474976710655) && decide (tha ≤ 281474976710655)))
/-- Does an arp announce in a frame of RARP; of ARP? -/
def saysR (op : Int) : Bool := op == 3
def saysA (op spa tpa : Int) : Bool := (op == 1 || op == 2) && spa == tpa

theorem arp_cells {w : World} {q : Nat} {op sha tha spa tpa : Int} {T : TypeId} (hb : Blk w q T (arpC op sha tha spa tpa)) :
    w.cell? ⟨q, 0, none⟩ = some (.int .i64 op) ∧ w.cell? ⟨q, 1, none⟩ = some (.int .u64 sha) ∧ w.cell? ⟨q, 2, none⟩ = some (.int .u64 tha) ∧ w.cell? ⟨q, 3, none⟩ = some (.int .u32 spa) ∧ w.cell? ⟨q, 4, none⟩ = some (.int .u32 tpa) := by
  have x0 := hb.cell 0
  have x1 := hb.cell 1
  have x2 := hb.cell 2
  have x3 := hb.cell 3
  have x4 := hb.cell 4
  simp only [arpC, List.getElem?_toArray, List.getElem?_cons_zero, List.getElem?_cons_succ] at x0 x1 x2 x3 x4
  exact ⟨x0, x1, x2, x3, x4⟩

end Go.Proofs.Yteipeookmpnemaa
