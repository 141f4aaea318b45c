/-
  Walk: inet.numbers. Conditions: the 24 bytes are read in memory; the table of widths reads as its initialiser lays it.
-/
import Derived.Test.YtecnicbicbgapaaDoorKc
namespace Go.Proofs.YtecnicbicbgapaaDoor
open Go.RowKit
set_option linter.unusedVariables false

/-- Where the numbers stand. -/
def ofs : List Nat := [0, 1, 2, 4, 6, 8, 9, 10, 12, 16, 20, 22, 24]
/-- The first k numbers of bytes, and nothing behind them. -/
def numK (b : List UInt8) (k : Nat) : Array Value := ((List.range 12).map fun j => if j < k then Value.int .i64 (nAt b (ofs.getD j 0) (wds.getD j 0)) else Value.int .i64 0).toArray
theorem get_stepK (p : Nat) (S : Nat → Prop) (b : List UInt8) (m i k : Nat) (w : World) (h : Rd 61 true w p S (some ((b.take m).drop i))) (h1 : 1 ≤ k) (h7 : k ≤ 7) (hik : i + k ≤ m) (hm : m ≤ b.length) :
    Calls Tryd.prog 28 #[.pointer (some ⟨p, 0, none⟩), .int .i64 (k : Int)] w fun e w' => e = .returned (.int .i64 (nAt b i k)) ∧ Rd 61 true w' p S (some ((b.take m).drop (i + k))) ∧ Chg (fun k => k = p) w w' := by
  have hg := get_any p S _ (k : Int) w h
  rw [get_upto b m i k h1 h7 hik hm] at hg
  exact hg
/-- The widths' twelve cells. -/
theorem gw_cells {w : World} (h : Gw w) : w.cell? ⟨0, 0, none⟩ = some (.int .i64 1) ∧ w.cell? ⟨0, 1, none⟩ = some (.int .i64 1) ∧ w.cell? ⟨0, 2, none⟩ = some (.int .i64 2) ∧ w.cell? ⟨0, 3, none⟩ = some (.int .i64 2) ∧ w.cell? ⟨0, 4, none⟩ = some (.int .i64 2) ∧ w.cell? ⟨0, 5, none⟩ = some (.int .i64 1) ∧ w.cell? ⟨0, 6, none⟩ = some (.int .i64 1) ∧ w.cell? ⟨0, 7, none⟩ = some (.int .i64 2) ∧ w.cell? ⟨0, 8, none⟩ = some (.int .i64 4) ∧ w.cell? ⟨0, 9, none⟩ = some (.int .i64 4) ∧ w.cell? ⟨0, 10, none⟩ = some (.int .i64 2) ∧ w.cell? ⟨0, 11, none⟩ = some (.int .i64 2) :=
  ⟨h.2 0 (by decide), h.2 1 (by decide), h.2 2 (by decide), h.2 3 (by decide), h.2 4 (by decide), h.2 5 (by decide), h.2 6 (by decide), h.2 7 (by decide), h.2 8 (by decide), h.2 9 (by decide), h.2 10 (by decide), h.2 11 (by decide)⟩
theorem num_cells {w : World} {q : Nat} {T : TypeId} {x0 x1 x2 x3 x4 x5 x6 x7 x8 x9 x10 x11 : Int} (hb : Blk w q T #[.int .i64 x0, .int .i64 x1, .int .i64 x2, .int .i64 x3, .int .i64 x4, .int .i64 x5, .int .i64 x6, .int .i64 x7, .int .i64 x8, .int .i64 x9, .int .i64 x10, .int .i64 x11]) :
    w.cell? ⟨q, 0, none⟩ = some (.int .i64 x0) ∧ w.cell? ⟨q, 1, none⟩ = some (.int .i64 x1) ∧ w.cell? ⟨q, 2, none⟩ = some (.int .i64 x2) ∧ w.cell? ⟨q, 3, none⟩ = some (.int .i64 x3) ∧ w.cell? ⟨q, 4, none⟩ = some (.int .i64 x4) ∧ w.cell? ⟨q, 5, none⟩ = some (.int .i64 x5) ∧ w.cell? ⟨q, 6, none⟩ = some (.int .i64 x6) ∧ w.cell? ⟨q, 7, none⟩ = some (.int .i64 x7) ∧ w.cell? ⟨q, 8, none⟩ = some (.int .i64 x8) ∧ w.cell? ⟨q, 9, none⟩ = some (.int .i64 x9) ∧ w.cell? ⟨q, 10, none⟩ = some (.int .i64 x10) ∧ w.cell? ⟨q, 11, none⟩ = some (.int .i64 x11) := by
  have c0 := hb.cell 0
  have c1 := hb.cell 1
  have c2 := hb.cell 2
  have c3 := hb.cell 3
  have c4 := hb.cell 4
  have c5 := hb.cell 5
  have c6 := hb.cell 6
  have c7 := hb.cell 7
  have c8 := hb.cell 8
  have c9 := hb.cell 9
  have c10 := hb.cell 10
  have c11 := hb.cell 11
  simp only [List.getElem?_toArray, List.getElem?_cons_zero, List.getElem?_cons_succ] at c0 c1 c2 c3 c4 c5 c6 c7 c8 c9 c10 c11
  exact ⟨c0, c1, c2, c3, c4, c5, c6, c7, c8, c9, c10, c11⟩
/-- Behind the stores of twelve numbers into block q, cell by cell. -/
theorem num_put {w : World} {q : Nat} {T : TypeId} (hb : Blk w q T #[.int .i64 0, .int .i64 0, .int .i64 0, .int .i64 0, .int .i64 0, .int .i64 0, .int .i64 0, .int .i64 0, .int .i64 0, .int .i64 0, .int .i64 0, .int .i64 0]) (v0 v1 v2 v3 v4 v5 v6 v7 v8 v9 v10 v11 : Int) :
    (w.setCell ⟨q, 0, none⟩ (.int .i64 v0)).cell? ⟨q, 0, none⟩ = some (.int .i64 v0) ∧ ((w.setCell ⟨q, 0, none⟩ (.int .i64 v0)).setCell ⟨q, 1, none⟩ (.int .i64 v1)).cell? ⟨q, 1, none⟩ = some (.int .i64 v1) ∧ (((w.setCell ⟨q, 0, none⟩ (.int .i64 v0)).setCell ⟨q, 1, none⟩ (.int .i64 v1)).setCell ⟨q, 2, none⟩ (.int .i64 v2)).cell? ⟨q, 2, none⟩ = some (.int .i64 v2) ∧ ((((w.setCell ⟨q, 0, none⟩ (.int .i64 v0)).setCell ⟨q, 1, none⟩ (.int .i64 v1)).setCell ⟨q, 2, none⟩ (.int .i64 v2)).setCell ⟨q, 3, none⟩ (.int .i64 v3)).cell? ⟨q, 3, none⟩ = some (.int .i64 v3) ∧ (((((w.setCell ⟨q, 0, none⟩ (.int .i64 v0)).setCell ⟨q, 1, none⟩ (.int .i64 v1)).setCell ⟨q, 2, none⟩ (.int .i64 v2)).setCell ⟨q, 3, none⟩ (.int .i64 v3)).setCell ⟨q, 4, none⟩ (.int .i64 v4)).cell? ⟨q, 4, none⟩ = some (.int .i64 v4) ∧ ((((((w.setCell ⟨q, 0, none⟩ (.int .i64 v0)).setCell ⟨q, 1, none⟩ (.int .i64 v1)).setCell ⟨q, 2, none⟩ (.int .i64 v2)).setCell ⟨q, 3, none⟩ (.int .i64 v3)).setCell ⟨q, 4, none⟩ (.int .i64 v4)).setCell ⟨q, 5, none⟩ (.int .i64 v5)).cell? ⟨q, 5, none⟩ = some (.int .i64 v5) ∧ (((((((w.setCell ⟨q, 0, none⟩ (.int .i64 v0)).setCell ⟨q, 1, none⟩ (.int .i64 v1)).setCell ⟨q, 2, none⟩ (.int .i64 v2)).setCell ⟨q, 3, none⟩ (.int .i64 v3)).setCell ⟨q, 4, none⟩ (.int .i64 v4)).setCell ⟨q, 5, none⟩ (.int .i64 v5)).setCell ⟨q, 6, none⟩ (.int .i64 v6)).cell? ⟨q, 6, none⟩ = some (.int .i64 v6) ∧ ((((((((w.setCell ⟨q, 0, none⟩ (.int .i64 v0)).setCell ⟨q, 1, none⟩ (.int .i64 v1)).setCell ⟨q, 2, none⟩ (.int .i64 v2)).setCell ⟨q, 3, none⟩ (.int .i64 v3)).setCell ⟨q, 4, none⟩ (.int .i64 v4)).setCell ⟨q, 5, none⟩ (.int .i64 v5)).setCell ⟨q, 6, none⟩ (.int .i64 v6)).setCell ⟨q, 7, none⟩ (.int .i64 v7)).cell? ⟨q, 7, none⟩ = some (.int .i64 v7) ∧ (((((((((w.setCell ⟨q, 0, none⟩ (.int .i64 v0)).setCell ⟨q, 1, none⟩ (.int .i64 v1)).setCell ⟨q, 2, none⟩ (.int .i64 v2)).setCell ⟨q, 3, none⟩ (.int .i64 v3)).setCell ⟨q, 4, none⟩ (.int .i64 v4)).setCell ⟨q, 5, none⟩ (.int .i64 v5)).setCell ⟨q, 6, none⟩ (.int .i64 v6)).setCell ⟨q, 7, none⟩ (.int .i64 v7)).setCell ⟨q, 8, none⟩ (.int .i64 v8)).cell? ⟨q, 8, none⟩ = some (.int .i64 v8) ∧ ((((((((((w.setCell ⟨q, 0, none⟩ (.int .i64 v0)).setCell ⟨q, 1, none⟩ (.int .i64 v1)).setCell ⟨q, 2, none⟩ (.int .i64 v2)).setCell ⟨q, 3, none⟩ (.int .i64 v3)).setCell ⟨q, 4, none⟩ (.int .i64 v4)).setCell ⟨q, 5, none⟩ (.int .i64 v5)).setCell ⟨q, 6, none⟩ (.int .i64 v6)).setCell ⟨q, 7, none⟩ (.int .i64 v7)).setCell ⟨q, 8, none⟩ (.int .i64 v8)).setCell ⟨q, 9, none⟩ (.int .i64 v9)).cell? ⟨q, 9, none⟩ = some (.int .i64 v9) ∧ (((((((((((w.setCell ⟨q, 0, none⟩ (.int .i64 v0)).setCell ⟨q, 1, none⟩ (.int .i64 v1)).setCell ⟨q, 2, none⟩ (.int .i64 v2)).setCell ⟨q, 3, none⟩ (.int .i64 v3)).setCell ⟨q, 4, none⟩ (.int .i64 v4)).setCell ⟨q, 5, none⟩ (.int .i64 v5)).setCell ⟨q, 6, none⟩ (.int .i64 v6)).setCell ⟨q, 7, none⟩ (.int .i64 v7)).setCell ⟨q, 8, none⟩ (.int .i64 v8)).setCell ⟨q, 9, none⟩ (.int .i64 v9)).setCell ⟨q, 10, none⟩ (.int .i64 v10)).cell? ⟨q, 10, none⟩ = some (.int .i64 v10) ∧ ((((((((((((w.setCell ⟨q, 0, none⟩ (.int .i64 v0)).setCell ⟨q, 1, none⟩ (.int .i64 v1)).setCell ⟨q, 2, none⟩ (.int .i64 v2)).setCell ⟨q, 3, none⟩ (.int .i64 v3)).setCell ⟨q, 4, none⟩ (.int .i64 v4)).setCell ⟨q, 5, none⟩ (.int .i64 v5)).setCell ⟨q, 6, none⟩ (.int .i64 v6)).setCell ⟨q, 7, none⟩ (.int .i64 v7)).setCell ⟨q, 8, none⟩ (.int .i64 v8)).setCell ⟨q, 9, none⟩ (.int .i64 v9)).setCell ⟨q, 10, none⟩ (.int .i64 v10)).setCell ⟨q, 11, none⟩ (.int .i64 v11)).cell? ⟨q, 11, none⟩ = some (.int .i64 v11) ∧ Chg (fun k => k = q) w ((((((((((((w.setCell ⟨q, 0, none⟩ (.int .i64 v0)).setCell ⟨q, 1, none⟩ (.int .i64 v1)).setCell ⟨q, 2, none⟩ (.int .i64 v2)).setCell ⟨q, 3, none⟩ (.int .i64 v3)).setCell ⟨q, 4, none⟩ (.int .i64 v4)).setCell ⟨q, 5, none⟩ (.int .i64 v5)).setCell ⟨q, 6, none⟩ (.int .i64 v6)).setCell ⟨q, 7, none⟩ (.int .i64 v7)).setCell ⟨q, 8, none⟩ (.int .i64 v8)).setCell ⟨q, 9, none⟩ (.int .i64 v9)).setCell ⟨q, 10, none⟩ (.int .i64 v10)).setCell ⟨q, 11, none⟩ (.int .i64 v11)) := by
  have r0 := (hb.set 0 (.int .i64 v0)).cell 0
  have r1 := ((hb.set 0 (.int .i64 v0)).set 1 (.int .i64 v1)).cell 1
  have r2 := (((hb.set 0 (.int .i64 v0)).set 1 (.int .i64 v1)).set 2 (.int .i64 v2)).cell 2
  have r3 := ((((hb.set 0 (.int .i64 v0)).set 1 (.int .i64 v1)).set 2 (.int .i64 v2)).set 3 (.int .i64 v3)).cell 3
  have r4 := (((((hb.set 0 (.int .i64 v0)).set 1 (.int .i64 v1)).set 2 (.int .i64 v2)).set 3 (.int .i64 v3)).set 4 (.int .i64 v4)).cell 4
  have r5 := ((((((hb.set 0 (.int .i64 v0)).set 1 (.int .i64 v1)).set 2 (.int .i64 v2)).set 3 (.int .i64 v3)).set 4 (.int .i64 v4)).set 5 (.int .i64 v5)).cell 5
  have r6 := (((((((hb.set 0 (.int .i64 v0)).set 1 (.int .i64 v1)).set 2 (.int .i64 v2)).set 3 (.int .i64 v3)).set 4 (.int .i64 v4)).set 5 (.int .i64 v5)).set 6 (.int .i64 v6)).cell 6
  have r7 := ((((((((hb.set 0 (.int .i64 v0)).set 1 (.int .i64 v1)).set 2 (.int .i64 v2)).set 3 (.int .i64 v3)).set 4 (.int .i64 v4)).set 5 (.int .i64 v5)).set 6 (.int .i64 v6)).set 7 (.int .i64 v7)).cell 7
  have r8 := (((((((((hb.set 0 (.int .i64 v0)).set 1 (.int .i64 v1)).set 2 (.int .i64 v2)).set 3 (.int .i64 v3)).set 4 (.int .i64 v4)).set 5 (.int .i64 v5)).set 6 (.int .i64 v6)).set 7 (.int .i64 v7)).set 8 (.int .i64 v8)).cell 8
  have r9 := ((((((((((hb.set 0 (.int .i64 v0)).set 1 (.int .i64 v1)).set 2 (.int .i64 v2)).set 3 (.int .i64 v3)).set 4 (.int .i64 v4)).set 5 (.int .i64 v5)).set 6 (.int .i64 v6)).set 7 (.int .i64 v7)).set 8 (.int .i64 v8)).set 9 (.int .i64 v9)).cell 9
  have r10 := (((((((((((hb.set 0 (.int .i64 v0)).set 1 (.int .i64 v1)).set 2 (.int .i64 v2)).set 3 (.int .i64 v3)).set 4 (.int .i64 v4)).set 5 (.int .i64 v5)).set 6 (.int .i64 v6)).set 7 (.int .i64 v7)).set 8 (.int .i64 v8)).set 9 (.int .i64 v9)).set 10 (.int .i64 v10)).cell 10
  have r11 := ((((((((((((hb.set 0 (.int .i64 v0)).set 1 (.int .i64 v1)).set 2 (.int .i64 v2)).set 3 (.int .i64 v3)).set 4 (.int .i64 v4)).set 5 (.int .i64 v5)).set 6 (.int .i64 v6)).set 7 (.int .i64 v7)).set 8 (.int .i64 v8)).set 9 (.int .i64 v9)).set 10 (.int .i64 v10)).set 11 (.int .i64 v11)).cell 11
  simp only [List.setIfInBounds_toArray, List.set_cons_succ, List.set_cons_zero, List.getElem?_toArray, List.getElem?_cons_zero, List.getElem?_cons_succ] at r0 r1 r2 r3 r4 r5 r6 r7 r8 r9 r10 r11
  exact ⟨r0, r1, r2, r3, r4, r5, r6, r7, r8, r9, r10, r11, (((((((((((((Chg.refl (fun k => k = q) w).put q 0 (fun _ => rfl) _).put q 1 (fun _ => rfl) _).put q 2 (fun _ => rfl) _).put q 3 (fun _ => rfl) _).put q 4 (fun _ => rfl) _).put q 5 (fun _ => rfl) _).put q 6 (fun _ => rfl) _).put q 7 (fun _ => rfl) _).put q 8 (fun _ => rfl) _).put q 9 (fun _ => rfl) _).put q 10 (fun _ => rfl) _).put q 11 (fun _ => rfl) _)⟩
theorem numK_set (b : List UInt8) (k : Nat) (h : k < 12) : (numK b k).setIfInBounds k (.int .i64 (nAt b (ofs.getD k 0) (wds.getD k 0))) = numK b (k + 1) := by
  have hk' : k = 0 ∨ k = 1 ∨ k = 2 ∨ k = 3 ∨ k = 4 ∨ k = 5 ∨ k = 6 ∨ k = 7 ∨ k = 8 ∨ k = 9 ∨ k = 10 ∨ k = 11 := by omega
  rcases hk' with rfl | rfl | rfl | rfl | rfl | rfl | rfl | rfl | rfl | rfl | rfl | rfl <;> rfl
theorem numK_at (b : List UInt8) (k : Nat) (h : k < 12) : (numK b k)[k]? = some (.int .i64 0) := by
  have hk' : k = 0 ∨ k = 1 ∨ k = 2 ∨ k = 3 ∨ k = 4 ∨ k = 5 ∨ k = 6 ∨ k = 7 ∨ k = 8 ∨ k = 9 ∨ k = 10 ∨ k = 11 := by omega
  rcases hk' with rfl | rfl | rfl | rfl | rfl | rfl | rfl | rfl | rfl | rfl | rfl | rfl <;> rfl
theorem numK_zero (b : List UInt8) : numK b 0 = #[.int .i64 0, .int .i64 0, .int .i64 0, .int .i64 0, .int .i64 0, .int .i64 0, .int .i64 0, .int .i64 0, .int .i64 0, .int .i64 0, .int .i64 0, .int .i64 0] := rfl
theorem numK_all (b : List UInt8) : numK b 12 = #[.int .i64 (nAt b 0 1), .int .i64 (nAt b 1 1), .int .i64 (nAt b 2 2), .int .i64 (nAt b 4 2), .int .i64 (nAt b 6 2), .int .i64 (nAt b 8 1), .int .i64 (nAt b 9 1), .int .i64 (nAt b 10 2), .int .i64 (nAt b 12 4), .int .i64 (nAt b 16 4), .int .i64 (nAt b 20 2), .int .i64 (nAt b 22 2)] := rfl

set_option maxRecDepth 100000 in
set_option maxHeartbeats 4000000 in
theorem numbers_any (A : Option Addr) (c : Nat) (b : List UInt8) (S : Nat → Prop) (w : World) (hg : Gw w) (hl : b.length = 24) (h : Rds w S A 24 (bcs b)) (hc : 24 ≤ c) (hcm : c ≤ maxLen) :
    Calls Tryd.prog 21 #[.slice A 24 c] w fun e w' => e = .returned (.agg (numK b 12)) ∧ Chg (fun _ => False) w w' := by
  have hz2 : ((w.alloc (.cells #[.int .i64 0, .int .i64 0, .int .i64 0, .int .i64 0, .int .i64 0, .int .i64 0, .int .i64 0, .int .i64 0, .int .i64 0, .int .i64 0, .int .i64 0, .int .i64 0] 43)).alloc (.cells #[.int .i64 0, .int .i64 0, .int .i64 0, .int .i64 0, .int .i64 0, .int .i64 0, .int .i64 0, .int .i64 0, .int .i64 0, .int .i64 0, .int .i64 0, .int .i64 0] 43)).heap.size = w.heap.size + 2 := by simp
  have hb1 : Blk ((w.alloc (.cells #[.int .i64 0, .int .i64 0, .int .i64 0, .int .i64 0, .int .i64 0, .int .i64 0, .int .i64 0, .int .i64 0, .int .i64 0, .int .i64 0, .int .i64 0, .int .i64 0] 43)).alloc (.cells #[.int .i64 0, .int .i64 0, .int .i64 0, .int .i64 0, .int .i64 0, .int .i64 0, .int .i64 0, .int .i64 0, .int .i64 0, .int .i64 0, .int .i64 0, .int .i64 0] 43)) w.heap.size 43 _ := (Blk.new _ _ _).alloc _
  have hb2 : Blk ((w.alloc (.cells #[.int .i64 0, .int .i64 0, .int .i64 0, .int .i64 0, .int .i64 0, .int .i64 0, .int .i64 0, .int .i64 0, .int .i64 0, .int .i64 0, .int .i64 0, .int .i64 0] 43)).alloc (.cells #[.int .i64 0, .int .i64 0, .int .i64 0, .int .i64 0, .int .i64 0, .int .i64 0, .int .i64 0, .int .i64 0, .int .i64 0, .int .i64 0, .int .i64 0, .int .i64 0] 43)) (w.heap.size + 1) 43 #[.int .i64 0, .int .i64 0, .int .i64 0, .int .i64 0, .int .i64 0, .int .i64 0, .int .i64 0, .int .i64 0, .int .i64 0, .int .i64 0, .int .i64 0, .int .i64 0] := blk_new (by simp)
  have hC := ((Chg.refl (fun _ => False) w).alloc (.cells #[.int .i64 0, .int .i64 0, .int .i64 0, .int .i64 0, .int .i64 0, .int .i64 0, .int .i64 0, .int .i64 0, .int .i64 0, .int .i64 0, .int .i64 0, .int .i64 0] 43)).alloc (.cells #[.int .i64 0, .int .i64 0, .int .i64 0, .int .i64 0, .int .i64 0, .int .i64 0, .int .i64 0, .int .i64 0, .int .i64 0, .int .i64 0, .int .i64 0, .int .i64 0] 43)
  have hrd := read_any A 24 c b S ((w.alloc (.cells #[.int .i64 0, .int .i64 0, .int .i64 0, .int .i64 0, .int .i64 0, .int .i64 0, .int .i64 0, .int .i64 0, .int .i64 0, .int .i64 0, .int .i64 0, .int .i64 0] 43)).alloc (.cells #[.int .i64 0, .int .i64 0, .int .i64 0, .int .i64 0, .int .i64 0, .int .i64 0, .int .i64 0, .int .i64 0, .int .i64 0, .int .i64 0, .int .i64 0, .int .i64 0] 43)) hl.symm ((h.alloc (.cells #[.int .i64 0, .int .i64 0, .int .i64 0, .int .i64 0, .int .i64 0, .int .i64 0, .int .i64 0, .int .i64 0, .int .i64 0, .int .i64 0, .int .i64 0, .int .i64 0] 43)).alloc (.cells #[.int .i64 0, .int .i64 0, .int .i64 0, .int .i64 0, .int .i64 0, .int .i64 0, .int .i64 0, .int .i64 0, .int .i64 0, .int .i64 0, .int .i64 0, .int .i64 0] 43)) (rds_nil_ok h (by omega)) (by decide)
  have HRD := Lib.hid hrd
  have HB1 := Lib.hid hb1
  have HB2 := Lib.hid hb2
  have HC0 := Lib.hid hC
  have HG := Lib.hid hg
  have HL := Lib.hid hl
  have HZ := Lib.hid hz2
  clear hrd hb1 hb2 hC hg hl hz2 h
  go_enter Tryd.func21, Tryd.ntmps21
  go_wp2_with fail
  refine HRD.out.mono ?_
  rintro e w1 ⟨p, rfl, hp, hrd, hc1⟩
  rw [HZ.out] at hp hrd
  have hG := HG.out.chg (HC0.out.trans hc1 (fun _ _ e => e)) id
  have HB1' := Lib.hid (HB1.out.chg hc1 id)
  have HB2' := Lib.hid (HB2.out.chg hc1 id)
  have HC1 := Lib.hid (HC0.out.trans hc1 (fun _ _ e => e))
  have HRD1 := Lib.hid hrd
  obtain ⟨g0, g1, g2, g3, g4, g5, g6, g7, g8, g9, g10, g11⟩ := gw_cells hG
  clear hG hc1 HRD HB1 HB2 HC0 hrd
  go_wp2_with fail
  go_loopg [10] 12 (fun g i wr => ∃ (k : Nat) (z : Int), g = 12 - k ∧ k ≤ 12 ∧ i = .int .i64 z ∧ z = (k : Int) ∧ Hid (Rd 61 true wr p (fun k => w.heap.size + 2 ≤ k ∧ k < p) (some ((b.take 24).drop (ofs.getD k 0)))) ∧ Hid (Blk wr w.heap.size 43 #[.int .i64 0, .int .i64 0, .int .i64 0, .int .i64 0, .int .i64 0, .int .i64 0, .int .i64 0, .int .i64 0, .int .i64 0, .int .i64 0, .int .i64 0, .int .i64 0]) ∧ Hid (Blk wr (w.heap.size + 1) 43 (numK b k)) ∧ Hid (Chg (fun _ => False) w wr))
  case atStart =>
    refine ⟨0, 0, rfl, Nat.zero_le _, rfl, rfl, ?_, HB1', HB2', HC1⟩
    have e : (b.take 24).drop (ofs.getD 0 0) = b := by
      have := HL.out
      rw [List.take_of_length_le (by omega)]
      rfl
    rw [e]
    exact HRD1
  case round =>
    obtain ⟨k, z, rfl, hk, rfl, hz, HR, HBa, HBb, HC⟩ := hrel
    clear HB1' HB2' HC1 HRD1 g0 g1 g2 g3 g4 g5 g6 g7 g8 g9 g10 g11
    by_cases hlt : k < 12
    · have hk' : k = 0 ∨ k = 1 ∨ k = 2 ∨ k = 3 ∨ k = 4 ∨ k = 5 ∨ k = 6 ∨ k = 7 ∨ k = 8 ∨ k = 9 ∨ k = 10 ∨ k = 11 := by omega
      rcases hk' with rfl | rfl | rfl | rfl | rfl | rfl | rfl | rfl | rfl | rfl | rfl | rfl
      · obtain rfl : z = 0 := by omega
        clear hz
        have hix : ∀ W, (Instr.index 43 (.agg #[.int .i64 1, .int .i64 1, .int .i64 2, .int .i64 2, .int .i64 2, .int .i64 1, .int .i64 1, .int .i64 2, .int .i64 4, .int .i64 4, .int .i64 2, .int .i64 2]) (.int .i64 0)).run Tryd.prog W = .ok (.int .i64 1) W := fun _ => by kernel_rfl
        have HGET := Lib.hid (get_stepK p _ b 24 0 1 wr HR.out (by decide) (by decide) (by decide) (Nat.le_of_eq HL.out.symm))
        go_wp2_with fail
        refine HGET.out.mono ?_
        rintro e w2 ⟨rfl, hrd2, hcg⟩
        have hb := HBb.out.chg hcg (by omega)
        have y0 := (hb.cell 0).trans (numK_at b 0 (by decide))
        have u0 := hb.frozen 0
        have hcp := (Chg.refl (fun j => j = w.heap.size + 1) w2).put (w.heap.size + 1) 0 (fun _ => rfl) (.int .i64 (nAt b 0 1))
        have HB3 := Lib.hid (hb.set 0 (.int .i64 (nAt b 0 1)))
        have HR3 := Lib.hid (hrd2.chg hcp (by omega) (fun j hj => by omega))
        have HA3 := Lib.hid ((HBa.out.chg hcg (by omega)).chg hcp (by omega))
        have HC3 := Lib.hid (fresh_set (fresh_set HC.out hcg (by omega)) hcp (by omega))
        clear HR HBa HBb HC hrd2 hcg hb hcp HGET
        go_wp2_with fail
        go_roundg 11
        case measure => omega
        case rel => exact ⟨1, 1, rfl, by decide, by go_num, rfl, HR3, HA3, HB3, HC3⟩
      · obtain rfl : z = 1 := by omega
        clear hz
        have hix : ∀ W, (Instr.index 43 (.agg #[.int .i64 1, .int .i64 1, .int .i64 2, .int .i64 2, .int .i64 2, .int .i64 1, .int .i64 1, .int .i64 2, .int .i64 4, .int .i64 4, .int .i64 2, .int .i64 2]) (.int .i64 1)).run Tryd.prog W = .ok (.int .i64 1) W := fun _ => by kernel_rfl
        have HGET := Lib.hid (get_stepK p _ b 24 1 1 wr HR.out (by decide) (by decide) (by decide) (Nat.le_of_eq HL.out.symm))
        go_wp2_with fail
        refine HGET.out.mono ?_
        rintro e w2 ⟨rfl, hrd2, hcg⟩
        have hb := HBb.out.chg hcg (by omega)
        have y0 := (hb.cell 1).trans (numK_at b 1 (by decide))
        have u0 := hb.frozen 1
        have hcp := (Chg.refl (fun j => j = w.heap.size + 1) w2).put (w.heap.size + 1) 1 (fun _ => rfl) (.int .i64 (nAt b 1 1))
        have HB3 := Lib.hid (hb.set 1 (.int .i64 (nAt b 1 1)))
        have HR3 := Lib.hid (hrd2.chg hcp (by omega) (fun j hj => by omega))
        have HA3 := Lib.hid ((HBa.out.chg hcg (by omega)).chg hcp (by omega))
        have HC3 := Lib.hid (fresh_set (fresh_set HC.out hcg (by omega)) hcp (by omega))
        clear HR HBa HBb HC hrd2 hcg hb hcp HGET
        go_wp2_with fail
        go_roundg 10
        case measure => omega
        case rel => exact ⟨2, 2, rfl, by decide, by go_num, rfl, HR3, HA3, HB3, HC3⟩
      · obtain rfl : z = 2 := by omega
        clear hz
        have hix : ∀ W, (Instr.index 43 (.agg #[.int .i64 1, .int .i64 1, .int .i64 2, .int .i64 2, .int .i64 2, .int .i64 1, .int .i64 1, .int .i64 2, .int .i64 4, .int .i64 4, .int .i64 2, .int .i64 2]) (.int .i64 2)).run Tryd.prog W = .ok (.int .i64 2) W := fun _ => by kernel_rfl
        have HGET := Lib.hid (get_stepK p _ b 24 2 2 wr HR.out (by decide) (by decide) (by decide) (Nat.le_of_eq HL.out.symm))
        go_wp2_with fail
        refine HGET.out.mono ?_
        rintro e w2 ⟨rfl, hrd2, hcg⟩
        have hb := HBb.out.chg hcg (by omega)
        have y0 := (hb.cell 2).trans (numK_at b 2 (by decide))
        have u0 := hb.frozen 2
        have hcp := (Chg.refl (fun j => j = w.heap.size + 1) w2).put (w.heap.size + 1) 2 (fun _ => rfl) (.int .i64 (nAt b 2 2))
        have HB3 := Lib.hid (hb.set 2 (.int .i64 (nAt b 2 2)))
        have HR3 := Lib.hid (hrd2.chg hcp (by omega) (fun j hj => by omega))
        have HA3 := Lib.hid ((HBa.out.chg hcg (by omega)).chg hcp (by omega))
        have HC3 := Lib.hid (fresh_set (fresh_set HC.out hcg (by omega)) hcp (by omega))
        clear HR HBa HBb HC hrd2 hcg hb hcp HGET
        go_wp2_with fail
        go_roundg 9
        case measure => omega
        case rel => exact ⟨3, 3, rfl, by decide, by go_num, rfl, HR3, HA3, HB3, HC3⟩
      · obtain rfl : z = 3 := by omega
        clear hz
        have hix : ∀ W, (Instr.index 43 (.agg #[.int .i64 1, .int .i64 1, .int .i64 2, .int .i64 2, .int .i64 2, .int .i64 1, .int .i64 1, .int .i64 2, .int .i64 4, .int .i64 4, .int .i64 2, .int .i64 2]) (.int .i64 3)).run Tryd.prog W = .ok (.int .i64 2) W := fun _ => by kernel_rfl
        have HGET := Lib.hid (get_stepK p _ b 24 4 2 wr HR.out (by decide) (by decide) (by decide) (Nat.le_of_eq HL.out.symm))
        go_wp2_with fail
        refine HGET.out.mono ?_
        rintro e w2 ⟨rfl, hrd2, hcg⟩
        have hb := HBb.out.chg hcg (by omega)
        have y0 := (hb.cell 3).trans (numK_at b 3 (by decide))
        have u0 := hb.frozen 3
        have hcp := (Chg.refl (fun j => j = w.heap.size + 1) w2).put (w.heap.size + 1) 3 (fun _ => rfl) (.int .i64 (nAt b 4 2))
        have HB3 := Lib.hid (hb.set 3 (.int .i64 (nAt b 4 2)))
        have HR3 := Lib.hid (hrd2.chg hcp (by omega) (fun j hj => by omega))
        have HA3 := Lib.hid ((HBa.out.chg hcg (by omega)).chg hcp (by omega))
        have HC3 := Lib.hid (fresh_set (fresh_set HC.out hcg (by omega)) hcp (by omega))
        clear HR HBa HBb HC hrd2 hcg hb hcp HGET
        go_wp2_with fail
        go_roundg 8
        case measure => omega
        case rel => exact ⟨4, 4, rfl, by decide, by go_num, rfl, HR3, HA3, HB3, HC3⟩
      · obtain rfl : z = 4 := by omega
        clear hz
        have hix : ∀ W, (Instr.index 43 (.agg #[.int .i64 1, .int .i64 1, .int .i64 2, .int .i64 2, .int .i64 2, .int .i64 1, .int .i64 1, .int .i64 2, .int .i64 4, .int .i64 4, .int .i64 2, .int .i64 2]) (.int .i64 4)).run Tryd.prog W = .ok (.int .i64 2) W := fun _ => by kernel_rfl
        have HGET := Lib.hid (get_stepK p _ b 24 6 2 wr HR.out (by decide) (by decide) (by decide) (Nat.le_of_eq HL.out.symm))
        go_wp2_with fail
        refine HGET.out.mono ?_
        rintro e w2 ⟨rfl, hrd2, hcg⟩
        have hb := HBb.out.chg hcg (by omega)
        have y0 := (hb.cell 4).trans (numK_at b 4 (by decide))
        have u0 := hb.frozen 4
        have hcp := (Chg.refl (fun j => j = w.heap.size + 1) w2).put (w.heap.size + 1) 4 (fun _ => rfl) (.int .i64 (nAt b 6 2))
        have HB3 := Lib.hid (hb.set 4 (.int .i64 (nAt b 6 2)))
        have HR3 := Lib.hid (hrd2.chg hcp (by omega) (fun j hj => by omega))
        have HA3 := Lib.hid ((HBa.out.chg hcg (by omega)).chg hcp (by omega))
        have HC3 := Lib.hid (fresh_set (fresh_set HC.out hcg (by omega)) hcp (by omega))
        clear HR HBa HBb HC hrd2 hcg hb hcp HGET
        go_wp2_with fail
        go_roundg 7
        case measure => omega
        case rel => exact ⟨5, 5, rfl, by decide, by go_num, rfl, HR3, HA3, HB3, HC3⟩
      · obtain rfl : z = 5 := by omega
        clear hz
        have hix : ∀ W, (Instr.index 43 (.agg #[.int .i64 1, .int .i64 1, .int .i64 2, .int .i64 2, .int .i64 2, .int .i64 1, .int .i64 1, .int .i64 2, .int .i64 4, .int .i64 4, .int .i64 2, .int .i64 2]) (.int .i64 5)).run Tryd.prog W = .ok (.int .i64 1) W := fun _ => by kernel_rfl
        have HGET := Lib.hid (get_stepK p _ b 24 8 1 wr HR.out (by decide) (by decide) (by decide) (Nat.le_of_eq HL.out.symm))
        go_wp2_with fail
        refine HGET.out.mono ?_
        rintro e w2 ⟨rfl, hrd2, hcg⟩
        have hb := HBb.out.chg hcg (by omega)
        have y0 := (hb.cell 5).trans (numK_at b 5 (by decide))
        have u0 := hb.frozen 5
        have hcp := (Chg.refl (fun j => j = w.heap.size + 1) w2).put (w.heap.size + 1) 5 (fun _ => rfl) (.int .i64 (nAt b 8 1))
        have HB3 := Lib.hid (hb.set 5 (.int .i64 (nAt b 8 1)))
        have HR3 := Lib.hid (hrd2.chg hcp (by omega) (fun j hj => by omega))
        have HA3 := Lib.hid ((HBa.out.chg hcg (by omega)).chg hcp (by omega))
        have HC3 := Lib.hid (fresh_set (fresh_set HC.out hcg (by omega)) hcp (by omega))
        clear HR HBa HBb HC hrd2 hcg hb hcp HGET
        go_wp2_with fail
        go_roundg 6
        case measure => omega
        case rel => exact ⟨6, 6, rfl, by decide, by go_num, rfl, HR3, HA3, HB3, HC3⟩
      · obtain rfl : z = 6 := by omega
        clear hz
        have hix : ∀ W, (Instr.index 43 (.agg #[.int .i64 1, .int .i64 1, .int .i64 2, .int .i64 2, .int .i64 2, .int .i64 1, .int .i64 1, .int .i64 2, .int .i64 4, .int .i64 4, .int .i64 2, .int .i64 2]) (.int .i64 6)).run Tryd.prog W = .ok (.int .i64 1) W := fun _ => by kernel_rfl
        have HGET := Lib.hid (get_stepK p _ b 24 9 1 wr HR.out (by decide) (by decide) (by decide) (Nat.le_of_eq HL.out.symm))
        go_wp2_with fail
        refine HGET.out.mono ?_
        rintro e w2 ⟨rfl, hrd2, hcg⟩
        have hb := HBb.out.chg hcg (by omega)
        have y0 := (hb.cell 6).trans (numK_at b 6 (by decide))
        have u0 := hb.frozen 6
        have hcp := (Chg.refl (fun j => j = w.heap.size + 1) w2).put (w.heap.size + 1) 6 (fun _ => rfl) (.int .i64 (nAt b 9 1))
        have HB3 := Lib.hid (hb.set 6 (.int .i64 (nAt b 9 1)))
        have HR3 := Lib.hid (hrd2.chg hcp (by omega) (fun j hj => by omega))
        have HA3 := Lib.hid ((HBa.out.chg hcg (by omega)).chg hcp (by omega))
        have HC3 := Lib.hid (fresh_set (fresh_set HC.out hcg (by omega)) hcp (by omega))
        clear HR HBa HBb HC hrd2 hcg hb hcp HGET
        go_wp2_with fail
        go_roundg 5
        case measure => omega
        case rel => exact ⟨7, 7, rfl, by decide, by go_num, rfl, HR3, HA3, HB3, HC3⟩
      · obtain rfl : z = 7 := by omega
        clear hz
        have hix : ∀ W, (Instr.index 43 (.agg #[.int .i64 1, .int .i64 1, .int .i64 2, .int .i64 2, .int .i64 2, .int .i64 1, .int .i64 1, .int .i64 2, .int .i64 4, .int .i64 4, .int .i64 2, .int .i64 2]) (.int .i64 7)).run Tryd.prog W = .ok (.int .i64 2) W := fun _ => by kernel_rfl
        have HGET := Lib.hid (get_stepK p _ b 24 10 2 wr HR.out (by decide) (by decide) (by decide) (Nat.le_of_eq HL.out.symm))
        go_wp2_with fail
        refine HGET.out.mono ?_
        rintro e w2 ⟨rfl, hrd2, hcg⟩
        have hb := HBb.out.chg hcg (by omega)
        have y0 := (hb.cell 7).trans (numK_at b 7 (by decide))
        have u0 := hb.frozen 7
        have hcp := (Chg.refl (fun j => j = w.heap.size + 1) w2).put (w.heap.size + 1) 7 (fun _ => rfl) (.int .i64 (nAt b 10 2))
        have HB3 := Lib.hid (hb.set 7 (.int .i64 (nAt b 10 2)))
        have HR3 := Lib.hid (hrd2.chg hcp (by omega) (fun j hj => by omega))
        have HA3 := Lib.hid ((HBa.out.chg hcg (by omega)).chg hcp (by omega))
        have HC3 := Lib.hid (fresh_set (fresh_set HC.out hcg (by omega)) hcp (by omega))
        clear HR HBa HBb HC hrd2 hcg hb hcp HGET
        go_wp2_with fail
        go_roundg 4
        case measure => omega
        case rel => exact ⟨8, 8, rfl, by decide, by go_num, rfl, HR3, HA3, HB3, HC3⟩
      · obtain rfl : z = 8 := by omega
        clear hz
        have hix : ∀ W, (Instr.index 43 (.agg #[.int .i64 1, .int .i64 1, .int .i64 2, .int .i64 2, .int .i64 2, .int .i64 1, .int .i64 1, .int .i64 2, .int .i64 4, .int .i64 4, .int .i64 2, .int .i64 2]) (.int .i64 8)).run Tryd.prog W = .ok (.int .i64 4) W := fun _ => by kernel_rfl
        have HGET := Lib.hid (get_stepK p _ b 24 12 4 wr HR.out (by decide) (by decide) (by decide) (Nat.le_of_eq HL.out.symm))
        go_wp2_with fail
        refine HGET.out.mono ?_
        rintro e w2 ⟨rfl, hrd2, hcg⟩
        have hb := HBb.out.chg hcg (by omega)
        have y0 := (hb.cell 8).trans (numK_at b 8 (by decide))
        have u0 := hb.frozen 8
        have hcp := (Chg.refl (fun j => j = w.heap.size + 1) w2).put (w.heap.size + 1) 8 (fun _ => rfl) (.int .i64 (nAt b 12 4))
        have HB3 := Lib.hid (hb.set 8 (.int .i64 (nAt b 12 4)))
        have HR3 := Lib.hid (hrd2.chg hcp (by omega) (fun j hj => by omega))
        have HA3 := Lib.hid ((HBa.out.chg hcg (by omega)).chg hcp (by omega))
        have HC3 := Lib.hid (fresh_set (fresh_set HC.out hcg (by omega)) hcp (by omega))
        clear HR HBa HBb HC hrd2 hcg hb hcp HGET
        go_wp2_with fail
        go_roundg 3
        case measure => omega
        case rel => exact ⟨9, 9, rfl, by decide, by go_num, rfl, HR3, HA3, HB3, HC3⟩
      · obtain rfl : z = 9 := by omega
        clear hz
        have hix : ∀ W, (Instr.index 43 (.agg #[.int .i64 1, .int .i64 1, .int .i64 2, .int .i64 2, .int .i64 2, .int .i64 1, .int .i64 1, .int .i64 2, .int .i64 4, .int .i64 4, .int .i64 2, .int .i64 2]) (.int .i64 9)).run Tryd.prog W = .ok (.int .i64 4) W := fun _ => by kernel_rfl
        have HGET := Lib.hid (get_stepK p _ b 24 16 4 wr HR.out (by decide) (by decide) (by decide) (Nat.le_of_eq HL.out.symm))
        go_wp2_with fail
        refine HGET.out.mono ?_
        rintro e w2 ⟨rfl, hrd2, hcg⟩
        have hb := HBb.out.chg hcg (by omega)
        have y0 := (hb.cell 9).trans (numK_at b 9 (by decide))
        have u0 := hb.frozen 9
        have hcp := (Chg.refl (fun j => j = w.heap.size + 1) w2).put (w.heap.size + 1) 9 (fun _ => rfl) (.int .i64 (nAt b 16 4))
        have HB3 := Lib.hid (hb.set 9 (.int .i64 (nAt b 16 4)))
        have HR3 := Lib.hid (hrd2.chg hcp (by omega) (fun j hj => by omega))
        have HA3 := Lib.hid ((HBa.out.chg hcg (by omega)).chg hcp (by omega))
        have HC3 := Lib.hid (fresh_set (fresh_set HC.out hcg (by omega)) hcp (by omega))
        clear HR HBa HBb HC hrd2 hcg hb hcp HGET
        go_wp2_with fail
        go_roundg 2
        case measure => omega
        case rel => exact ⟨10, 10, rfl, by decide, by go_num, rfl, HR3, HA3, HB3, HC3⟩
      · obtain rfl : z = 10 := by omega
        clear hz
        have hix : ∀ W, (Instr.index 43 (.agg #[.int .i64 1, .int .i64 1, .int .i64 2, .int .i64 2, .int .i64 2, .int .i64 1, .int .i64 1, .int .i64 2, .int .i64 4, .int .i64 4, .int .i64 2, .int .i64 2]) (.int .i64 10)).run Tryd.prog W = .ok (.int .i64 2) W := fun _ => by kernel_rfl
        have HGET := Lib.hid (get_stepK p _ b 24 20 2 wr HR.out (by decide) (by decide) (by decide) (Nat.le_of_eq HL.out.symm))
        go_wp2_with fail
        refine HGET.out.mono ?_
        rintro e w2 ⟨rfl, hrd2, hcg⟩
        have hb := HBb.out.chg hcg (by omega)
        have y0 := (hb.cell 10).trans (numK_at b 10 (by decide))
        have u0 := hb.frozen 10
        have hcp := (Chg.refl (fun j => j = w.heap.size + 1) w2).put (w.heap.size + 1) 10 (fun _ => rfl) (.int .i64 (nAt b 20 2))
        have HB3 := Lib.hid (hb.set 10 (.int .i64 (nAt b 20 2)))
        have HR3 := Lib.hid (hrd2.chg hcp (by omega) (fun j hj => by omega))
        have HA3 := Lib.hid ((HBa.out.chg hcg (by omega)).chg hcp (by omega))
        have HC3 := Lib.hid (fresh_set (fresh_set HC.out hcg (by omega)) hcp (by omega))
        clear HR HBa HBb HC hrd2 hcg hb hcp HGET
        go_wp2_with fail
        go_roundg 1
        case measure => omega
        case rel => exact ⟨11, 11, rfl, by decide, by go_num, rfl, HR3, HA3, HB3, HC3⟩
      · obtain rfl : z = 11 := by omega
        clear hz
        have hix : ∀ W, (Instr.index 43 (.agg #[.int .i64 1, .int .i64 1, .int .i64 2, .int .i64 2, .int .i64 2, .int .i64 1, .int .i64 1, .int .i64 2, .int .i64 4, .int .i64 4, .int .i64 2, .int .i64 2]) (.int .i64 11)).run Tryd.prog W = .ok (.int .i64 2) W := fun _ => by kernel_rfl
        have HGET := Lib.hid (get_stepK p _ b 24 22 2 wr HR.out (by decide) (by decide) (by decide) (Nat.le_of_eq HL.out.symm))
        go_wp2_with fail
        refine HGET.out.mono ?_
        rintro e w2 ⟨rfl, hrd2, hcg⟩
        have hb := HBb.out.chg hcg (by omega)
        have y0 := (hb.cell 11).trans (numK_at b 11 (by decide))
        have u0 := hb.frozen 11
        have hcp := (Chg.refl (fun j => j = w.heap.size + 1) w2).put (w.heap.size + 1) 11 (fun _ => rfl) (.int .i64 (nAt b 22 2))
        have HB3 := Lib.hid (hb.set 11 (.int .i64 (nAt b 22 2)))
        have HR3 := Lib.hid (hrd2.chg hcp (by omega) (fun j hj => by omega))
        have HA3 := Lib.hid ((HBa.out.chg hcg (by omega)).chg hcp (by omega))
        have HC3 := Lib.hid (fresh_set (fresh_set HC.out hcg (by omega)) hcp (by omega))
        clear HR HBa HBb HC hrd2 hcg hb hcp HGET
        go_wp2_with fail
        go_roundg 0
        case measure => omega
        case rel => exact ⟨12, 12, rfl, by decide, by go_num, rfl, HR3, HA3, HB3, HC3⟩
    · obtain rfl : k = 12 := by omega
      obtain rfl : z = 12 := by omega
      clear hz
      have hb := HBb.out
      rw [numK_all] at hb
      have ha := HBa.out
      obtain ⟨x0, x1, x2, x3, x4, x5, x6, x7, x8, x9, x10, x11⟩ := num_cells hb
      obtain ⟨y0, y1, y2, y3, y4, y5, y6, y7, y8, y9, y10, y11⟩ := num_cells ha
      have u0 := ha.frozen 0
      have u1 := ha.frozen 1
      have u2 := ha.frozen 2
      have u3 := ha.frozen 3
      have u4 := ha.frozen 4
      have u5 := ha.frozen 5
      have u6 := ha.frozen 6
      have u7 := ha.frozen 7
      have u8 := ha.frozen 8
      have u9 := ha.frozen 9
      have u10 := ha.frozen 10
      have u11 := ha.frozen 11
      obtain ⟨r0, r1, r2, r3, r4, r5, r6, r7, r8, r9, r10, r11, hcs⟩ := num_put ha (nAt b 0 1) (nAt b 1 1) (nAt b 2 2) (nAt b 4 2) (nAt b 6 2) (nAt b 8 1) (nAt b 9 1) (nAt b 10 2) (nAt b 12 4) (nAt b 16 4) (nAt b 20 2) (nAt b 22 2)
      have HF := Lib.hid (fresh_set HC.out hcs (Nat.le_refl _))
      have RR := Lib.hid (And.intro r0 (And.intro r1 (And.intro r2 (And.intro r3 (And.intro r4 (And.intro r5 (And.intro r6 (And.intro r7 (And.intro r8 (And.intro r9 (And.intro r10 r11)))))))))))
      clear HBa HBb r0 r1 r2 r3 r4 r5 r6 r7 r8 r9 r10 r11 hcs ha hb HC
      go_wp2_with fail
      obtain ⟨r0, r1, r2, r3, r4, r5, r6, r7, r8, r9, r10, r11⟩ := RR.out
      exact bodyPost_ret (v := .agg (numK b 12)) (by rw [numK_all]; simp [results, Tryd.results21, go_sem, r0, r1, r2, r3, r4, r5, r6, r7, r8, r9, r10, r11]) rfl ⟨rfl, HF.out⟩

end Go.Proofs.YtecnicbicbgapaaDoor
