/-
  The cells of a row, a message and a record; may a row be? Walks: control.within, chassis, nobody, named, held, Row. Conditions: none.
-/
import Derived.Test.YtacbgelbffmngaaM1
namespace Go.Proofs.Ytacbgelbffmngaa
open Go.RowKit
set_option linter.unusedVariables false

/-- A row's, a message's, a record's cells. -/
def rvC (po ma ow ta ol ge ph ve si : Int) : Array Value := #[.int .i64 po, .int .u64 ma, .int .i64 ow, .int .i64 ta, .int .i64 ol, .int .i64 ge, .int .i64 ph, .int .i64 ve, .int .i64 si]
def msC (kd po ma ow ta ol ge ph ve si pt vr : Int) (A : Option Addr) (n c : Nat) : Array Value := #[.int .i64 kd, .int .i64 po, .int .u64 ma, .int .i64 ow, .int .i64 ta, .int .i64 ol, .int .i64 ge, .int .i64 ph, .int .i64 ve, .int .i64 si, .int .i64 pt, .int .i64 vr, .slice A n c]
def rcC (pr sr ds sp dp un : Int) : Array Value := #[.int .i64 pr, .int .u32 sr, .int .u32 ds, .int .i64 sp, .int .i64 dp, .int .i64 un]
theorem chg_eq6 {S : Nat → Prop} {a w w' : World} {o : Obj} (h : Chg S a w) (e : w.alloc o = w') : Chg S a w' := e ▸ h.alloc o
theorem rv_cells {w : World} {q : Nat} {po ma ow ta ol ge ph ve si : Int} {T : TypeId} (hb : Blk w q T (rvC po ma ow ta ol ge ph ve si)) :
    w.cell? ⟨q, 0, none⟩ = some (.int .i64 po) ∧ w.cell? ⟨q, 1, none⟩ = some (.int .u64 ma) ∧ w.cell? ⟨q, 2, none⟩ = some (.int .i64 ow) ∧ w.cell? ⟨q, 3, none⟩ = some (.int .i64 ta) ∧ w.cell? ⟨q, 4, none⟩ = some (.int .i64 ol) ∧ w.cell? ⟨q, 5, none⟩ = some (.int .i64 ge) ∧ w.cell? ⟨q, 6, none⟩ = some (.int .i64 ph) ∧ w.cell? ⟨q, 7, none⟩ = some (.int .i64 ve) ∧ w.cell? ⟨q, 8, none⟩ = some (.int .i64 si) := by
  have x0 := hb.cell 0
  have x1 := hb.cell 1
  have x2 := hb.cell 2
  have x3 := hb.cell 3
  have x4 := hb.cell 4
  have x5 := hb.cell 5
  have x6 := hb.cell 6
  have x7 := hb.cell 7
  have x8 := hb.cell 8
  simp only [rvC, List.getElem?_toArray, List.getElem?_cons_zero, List.getElem?_cons_succ] at x0 x1 x2 x3 x4 x5 x6 x7 x8
  exact ⟨x0, x1, x2, x3, x4, x5, x6, x7, x8⟩
theorem rv_kept {w w' : World} {q : Nat} {po ma ow ta ol ge ph ve si : Int} {T : TypeId} (hb : Blk w q T (rvC po ma ow ta ol ge ph ve si)) (h : Chg (fun _ => False) w w') :
    w'.cell? ⟨q, 0, none⟩ = some (.int .i64 po) ∧ w'.cell? ⟨q, 1, none⟩ = some (.int .u64 ma) ∧ w'.cell? ⟨q, 2, none⟩ = some (.int .i64 ow) ∧ w'.cell? ⟨q, 3, none⟩ = some (.int .i64 ta) ∧ w'.cell? ⟨q, 4, none⟩ = some (.int .i64 ol) ∧ w'.cell? ⟨q, 5, none⟩ = some (.int .i64 ge) ∧ w'.cell? ⟨q, 6, none⟩ = some (.int .i64 ph) ∧ w'.cell? ⟨q, 7, none⟩ = some (.int .i64 ve) ∧ w'.cell? ⟨q, 8, none⟩ = some (.int .i64 si) := rv_cells (hb.chg h id)
theorem ms_cells {w : World} {q : Nat} {kd po ma ow ta ol ge ph ve si pt vr : Int} {A : Option Addr} {n c : Nat} {T : TypeId} (hb : Blk w q T (msC kd po ma ow ta ol ge ph ve si pt vr A n c)) :
    w.cell? ⟨q, 0, none⟩ = some (.int .i64 kd) ∧ w.cell? ⟨q, 1, none⟩ = some (.int .i64 po) ∧ w.cell? ⟨q, 2, none⟩ = some (.int .u64 ma) ∧ w.cell? ⟨q, 3, none⟩ = some (.int .i64 ow) ∧ w.cell? ⟨q, 4, none⟩ = some (.int .i64 ta) ∧ w.cell? ⟨q, 5, none⟩ = some (.int .i64 ol) ∧ w.cell? ⟨q, 6, none⟩ = some (.int .i64 ge) ∧ w.cell? ⟨q, 7, none⟩ = some (.int .i64 ph) ∧ w.cell? ⟨q, 8, none⟩ = some (.int .i64 ve) ∧ w.cell? ⟨q, 9, none⟩ = some (.int .i64 si) ∧ w.cell? ⟨q, 10, none⟩ = some (.int .i64 pt) ∧ w.cell? ⟨q, 11, none⟩ = some (.int .i64 vr) ∧ w.cell? ⟨q, 12, none⟩ = some (.slice A n c) := by
  have x0 := hb.cell 0
  have x1 := hb.cell 1
  have x2 := hb.cell 2
  have x3 := hb.cell 3
  have x4 := hb.cell 4
  have x5 := hb.cell 5
  have x6 := hb.cell 6
  have x7 := hb.cell 7
  have x8 := hb.cell 8
  have x9 := hb.cell 9
  have x10 := hb.cell 10
  have x11 := hb.cell 11
  have x12 := hb.cell 12
  simp only [msC, List.getElem?_toArray, List.getElem?_cons_zero, List.getElem?_cons_succ] at x0 x1 x2 x3 x4 x5 x6 x7 x8 x9 x10 x11 x12
  exact ⟨x0, x1, x2, x3, x4, x5, x6, x7, x8, x9, x10, x11, x12⟩
theorem ms_kept {w w' : World} {q : Nat} {kd po ma ow ta ol ge ph ve si pt vr : Int} {A : Option Addr} {n c : Nat} {T : TypeId} (hb : Blk w q T (msC kd po ma ow ta ol ge ph ve si pt vr A n c)) (h : Chg (fun _ => False) w w') :
    w'.cell? ⟨q, 0, none⟩ = some (.int .i64 kd) ∧ w'.cell? ⟨q, 1, none⟩ = some (.int .i64 po) ∧ w'.cell? ⟨q, 2, none⟩ = some (.int .u64 ma) ∧ w'.cell? ⟨q, 3, none⟩ = some (.int .i64 ow) ∧ w'.cell? ⟨q, 4, none⟩ = some (.int .i64 ta) ∧ w'.cell? ⟨q, 5, none⟩ = some (.int .i64 ol) ∧ w'.cell? ⟨q, 6, none⟩ = some (.int .i64 ge) ∧ w'.cell? ⟨q, 7, none⟩ = some (.int .i64 ph) ∧ w'.cell? ⟨q, 8, none⟩ = some (.int .i64 ve) ∧ w'.cell? ⟨q, 9, none⟩ = some (.int .i64 si) ∧ w'.cell? ⟨q, 10, none⟩ = some (.int .i64 pt) ∧ w'.cell? ⟨q, 11, none⟩ = some (.int .i64 vr) ∧ w'.cell? ⟨q, 12, none⟩ = some (.slice A n c) := ms_cells (hb.chg h id)
theorem rc_cells {w : World} {q : Nat} {pr sr ds sp dp un : Int} {T : TypeId} (hb : Blk w q T (rcC pr sr ds sp dp un)) :
    w.cell? ⟨q, 0, none⟩ = some (.int .i64 pr) ∧ w.cell? ⟨q, 1, none⟩ = some (.int .u32 sr) ∧ w.cell? ⟨q, 2, none⟩ = some (.int .u32 ds) ∧ w.cell? ⟨q, 3, none⟩ = some (.int .i64 sp) ∧ w.cell? ⟨q, 4, none⟩ = some (.int .i64 dp) ∧ w.cell? ⟨q, 5, none⟩ = some (.int .i64 un) := by
  have x0 := hb.cell 0
  have x1 := hb.cell 1
  have x2 := hb.cell 2
  have x3 := hb.cell 3
  have x4 := hb.cell 4
  have x5 := hb.cell 5
  simp only [rcC, List.getElem?_toArray, List.getElem?_cons_zero, List.getElem?_cons_succ] at x0 x1 x2 x3 x4 x5
  exact ⟨x0, x1, x2, x3, x4, x5⟩
theorem rc_kept {w w' : World} {q : Nat} {pr sr ds sp dp un : Int} {T : TypeId} (hb : Blk w q T (rcC pr sr ds sp dp un)) (h : Chg (fun _ => False) w w') :
    w'.cell? ⟨q, 0, none⟩ = some (.int .i64 pr) ∧ w'.cell? ⟨q, 1, none⟩ = some (.int .u32 sr) ∧ w'.cell? ⟨q, 2, none⟩ = some (.int .u32 ds) ∧ w'.cell? ⟨q, 3, none⟩ = some (.int .i64 sp) ∧ w'.cell? ⟨q, 4, none⟩ = some (.int .i64 dp) ∧ w'.cell? ⟨q, 5, none⟩ = some (.int .i64 un) := rc_cells (hb.chg h id)

def heldB (ph ow ta ol : Int) : Bool :=
  if ph = 0 then withinB 0 15 [ow] && withinB (-1) (-1) [ta, ol]
  else if ph = 1 then withinB 0 15 [ow, ta] && (!(ow == ta) && withinB (-1) (-1) [ol])
  else if ph = 2 then withinB 0 15 [ow, ol] && (!(ow == ol) && withinB (-1) (-1) [ta])
  else if ph = 3 then withinB (-1) (-1) [ow, ta, ol]
  else false
def namedB (p v : Int) : Bool := withinB 0 31 [p] && withinB 1 1099511627776 [v]
/-- May a row be? -/
def rwR (po ma ow ta ol ge ph ve si : Int) : Bool := namedB po ve && (decide (ma ≤ 281474976710655) && (withinB 1 4294967296 [ge] && (withinB 0 1099511627776 [si] && heldB ph ow ta ol)))

end Go.Proofs.Ytacbgelbffmngaa
