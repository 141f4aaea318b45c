/-
  Walks: inet.port, inet.Right, inet.Back, rutterref04.Right, Back. Conditions: none.
-/
import Derived.Test.YteipeookmpnemaaKa
import Derived.Test.YteipeookmpnemaaGen
namespace Go.Proofs.Yteipeookmpnemaa
open Go.RowKit
set_option linter.unusedVariables false

/-- A flow's cells. -/
def flC (pr src dst sp dp : Int) : Array Value := #[.int .i64 pr, .int .u32 src, .int .u32 dst, .int .i64 sp, .int .i64 dp]
def portB (x : Int) : Bool := decide (0 ≤ x) && decide (x ≤ 65535)
/-- May a flow be? -/
def flR (pr sp dp : Int) : Bool := (pr == 6 || pr == 17) && (portB sp && portB dp)

theorem fl_cells {w : World} {q : Nat} {pr src dst sp dp : Int} {T : TypeId} (hb : Blk w q T (flC pr src dst sp dp)) :
    w.cell? ⟨q, 0, none⟩ = some (.int .i64 pr) ∧ w.cell? ⟨q, 1, none⟩ = some (.int .u32 src) ∧ w.cell? ⟨q, 2, none⟩ = some (.int .u32 dst) ∧ w.cell? ⟨q, 3, none⟩ = some (.int .i64 sp) ∧ w.cell? ⟨q, 4, none⟩ = some (.int .i64 dp) := by
  have x0 := hb.cell 0
  have x1 := hb.cell 1
  have x2 := hb.cell 2
  have x3 := hb.cell 3
  have x4 := hb.cell 4
  simp only [flC, List.getElem?_toArray, List.getElem?_cons_zero, List.getElem?_cons_succ] at x0 x1 x2 x3 x4
  exact ⟨x0, x1, x2, x3, x4⟩
theorem fl_kept {w w' : World} {q : Nat} {pr src dst sp dp : Int} {T : TypeId} (hb : Blk w q T (flC pr src dst sp dp)) (h : Chg (fun _ => False) w w') :
    w'.cell? ⟨q, 0, none⟩ = some (.int .i64 pr) ∧ w'.cell? ⟨q, 1, none⟩ = some (.int .u32 src) ∧ w'.cell? ⟨q, 2, none⟩ = some (.int .u32 dst) ∧ w'.cell? ⟨q, 3, none⟩ = some (.int .i64 sp) ∧ w'.cell? ⟨q, 4, none⟩ = some (.int .i64 dp) := fl_cells (hb.chg h id)

end Go.Proofs.Yteipeookmpnemaa
