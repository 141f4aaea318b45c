/-
  A packet's cells, and whether it may be. Walks: tunnel.within, goes, Right. Conditions: none but the numbers of bytes.
-/
import Derived.Test.YtbbjecjhkjjbkaaFc
namespace Go.Proofs.Ytbbjecjhkjjbkaa
open Go.RowKit
set_option linter.unusedVariables false

/-- A packet's cells. -/
def pkC (k o f t p g i : Int) (A : Option Addr) (n c : Nat) : Array Value := #[.int .i64 k, .int .i64 o, .int .i64 f, .int .i64 t, .int .i64 p, .int .i64 g, .int .i64 i, .slice A n c]
/-- May a packet of its kind go from there to there? -/
def goB (k o f t : Int) : Bool := !(f == t) && ((k == 1 && f == o) || (k == 2 && (!(f == o) && !(t == o))))
/-- May a packet be, whose frame has n bytes? -/
def pkR (k o f t p g i : Int) (n : Nat) : Bool := goB k o f t && (withinB 0 15 [o, f, t] && (withinB 0 31 [p] && (withinB 1 4294967296 [g] && (withinB 0 1099511627776 [i] && withinB 14 1514 [(n : Int)]))))

theorem pk_cells {w : World} {q : Nat} {k o f t p g i : Int} {A : Option Addr} {n c : Nat} {T : TypeId} (hb : Blk w q T (pkC k o f t p g i A n c)) :
    w.cell? ⟨q, 0, none⟩ = some (.int .i64 k) ∧ w.cell? ⟨q, 1, none⟩ = some (.int .i64 o) ∧ w.cell? ⟨q, 2, none⟩ = some (.int .i64 f) ∧ w.cell? ⟨q, 3, none⟩ = some (.int .i64 t) ∧ w.cell? ⟨q, 4, none⟩ = some (.int .i64 p) ∧ w.cell? ⟨q, 5, none⟩ = some (.int .i64 g) ∧ w.cell? ⟨q, 6, none⟩ = some (.int .i64 i) ∧ w.cell? ⟨q, 7, none⟩ = some (.slice A n c) := by
  have x0 := hb.cell 0
  have x1 := hb.cell 1
  have x2 := hb.cell 2
  have x3 := hb.cell 3
  have x4 := hb.cell 4
  have x5 := hb.cell 5
  have x6 := hb.cell 6
  have x7 := hb.cell 7
  simp only [pkC, List.getElem?_toArray, List.getElem?_cons_zero, List.getElem?_cons_succ] at x0 x1 x2 x3 x4 x5 x6 x7
  exact ⟨x0, x1, x2, x3, x4, x5, x6, x7⟩
theorem pk_kept {w w' : World} {q : Nat} {k o f t p g i : Int} {A : Option Addr} {n c : Nat} {T : TypeId} (hb : Blk w q T (pkC k o f t p g i A n c)) (h : Chg (fun _ => False) w w') :
    w'.cell? ⟨q, 0, none⟩ = some (.int .i64 k) ∧ w'.cell? ⟨q, 1, none⟩ = some (.int .i64 o) ∧ w'.cell? ⟨q, 2, none⟩ = some (.int .i64 f) ∧ w'.cell? ⟨q, 3, none⟩ = some (.int .i64 t) ∧ w'.cell? ⟨q, 4, none⟩ = some (.int .i64 p) ∧ w'.cell? ⟨q, 5, none⟩ = some (.int .i64 g) ∧ w'.cell? ⟨q, 6, none⟩ = some (.int .i64 i) ∧ w'.cell? ⟨q, 7, none⟩ = some (.slice A n c) := pk_cells (hb.chg h id)

theorem chg_eq {S : Nat → Prop} {a w w' : World} {o : Obj} (h : Chg S a w) (e : w.alloc o = w') : Chg S a w' := e ▸ h.alloc o
end Go.Proofs.Ytbbjecjhkjjbkaa
