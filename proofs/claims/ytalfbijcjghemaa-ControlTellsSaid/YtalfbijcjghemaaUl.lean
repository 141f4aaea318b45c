/-
  Walks: control.getRow, getRecords. Conditions: the receiver is a reader in memory.
-/
import Derived.Test.YtalfbijcjghemaaUk
import Derived.Test.YtalfbijcjghemaaRc
import Derived.Deep.LoopGhost
import Derived.Deep.RegionHeld3
import Derived.Laws.MakeOwn
namespace Go.Proofs.Ytalfbijcjghemaa
open Go.RowKit
set_option linter.unusedVariables false

theorem rv_put {w : World} {r : Nat} {po ma ow ta ol ge ph ve si : Int} {T : TypeId} (hb : Blk w r T (rvC po ma ow ta ol ge ph ve si)) (po' ma' ow' ta' ol' ge' ph' ve' si' : Int) :
    (w.setCell ⟨r, 0, none⟩ (.int .i64 po')).cell? ⟨r, 0, none⟩ = some (.int .i64 po') ∧
    ((w.setCell ⟨r, 0, none⟩ (.int .i64 po')).setCell ⟨r, 1, none⟩ (.int .u64 ma')).cell? ⟨r, 1, none⟩ = some (.int .u64 ma') ∧
    (((w.setCell ⟨r, 0, none⟩ (.int .i64 po')).setCell ⟨r, 1, none⟩ (.int .u64 ma')).setCell ⟨r, 2, none⟩ (.int .i64 ow')).cell? ⟨r, 2, none⟩ = some (.int .i64 ow') ∧
    ((((w.setCell ⟨r, 0, none⟩ (.int .i64 po')).setCell ⟨r, 1, none⟩ (.int .u64 ma')).setCell ⟨r, 2, none⟩ (.int .i64 ow')).setCell ⟨r, 3, none⟩ (.int .i64 ta')).cell? ⟨r, 3, none⟩ = some (.int .i64 ta') ∧
    (((((w.setCell ⟨r, 0, none⟩ (.int .i64 po')).setCell ⟨r, 1, none⟩ (.int .u64 ma')).setCell ⟨r, 2, none⟩ (.int .i64 ow')).setCell ⟨r, 3, none⟩ (.int .i64 ta')).setCell ⟨r, 4, none⟩ (.int .i64 ol')).cell? ⟨r, 4, none⟩ = some (.int .i64 ol') ∧
    ((((((w.setCell ⟨r, 0, none⟩ (.int .i64 po')).setCell ⟨r, 1, none⟩ (.int .u64 ma')).setCell ⟨r, 2, none⟩ (.int .i64 ow')).setCell ⟨r, 3, none⟩ (.int .i64 ta')).setCell ⟨r, 4, none⟩ (.int .i64 ol')).setCell ⟨r, 5, none⟩ (.int .i64 ge')).cell? ⟨r, 5, none⟩ = some (.int .i64 ge') ∧
    (((((((w.setCell ⟨r, 0, none⟩ (.int .i64 po')).setCell ⟨r, 1, none⟩ (.int .u64 ma')).setCell ⟨r, 2, none⟩ (.int .i64 ow')).setCell ⟨r, 3, none⟩ (.int .i64 ta')).setCell ⟨r, 4, none⟩ (.int .i64 ol')).setCell ⟨r, 5, none⟩ (.int .i64 ge')).setCell ⟨r, 6, none⟩ (.int .i64 ph')).cell? ⟨r, 6, none⟩ = some (.int .i64 ph') ∧
    ((((((((w.setCell ⟨r, 0, none⟩ (.int .i64 po')).setCell ⟨r, 1, none⟩ (.int .u64 ma')).setCell ⟨r, 2, none⟩ (.int .i64 ow')).setCell ⟨r, 3, none⟩ (.int .i64 ta')).setCell ⟨r, 4, none⟩ (.int .i64 ol')).setCell ⟨r, 5, none⟩ (.int .i64 ge')).setCell ⟨r, 6, none⟩ (.int .i64 ph')).setCell ⟨r, 7, none⟩ (.int .i64 ve')).cell? ⟨r, 7, none⟩ = some (.int .i64 ve') ∧
    (((((((((w.setCell ⟨r, 0, none⟩ (.int .i64 po')).setCell ⟨r, 1, none⟩ (.int .u64 ma')).setCell ⟨r, 2, none⟩ (.int .i64 ow')).setCell ⟨r, 3, none⟩ (.int .i64 ta')).setCell ⟨r, 4, none⟩ (.int .i64 ol')).setCell ⟨r, 5, none⟩ (.int .i64 ge')).setCell ⟨r, 6, none⟩ (.int .i64 ph')).setCell ⟨r, 7, none⟩ (.int .i64 ve')).setCell ⟨r, 8, none⟩ (.int .i64 si')).cell? ⟨r, 8, none⟩ = some (.int .i64 si') ∧
    Blk (((((((((w.setCell ⟨r, 0, none⟩ (.int .i64 po')).setCell ⟨r, 1, none⟩ (.int .u64 ma')).setCell ⟨r, 2, none⟩ (.int .i64 ow')).setCell ⟨r, 3, none⟩ (.int .i64 ta')).setCell ⟨r, 4, none⟩ (.int .i64 ol')).setCell ⟨r, 5, none⟩ (.int .i64 ge')).setCell ⟨r, 6, none⟩ (.int .i64 ph')).setCell ⟨r, 7, none⟩ (.int .i64 ve')).setCell ⟨r, 8, none⟩ (.int .i64 si')) r T (rvC po' ma' ow' ta' ol' ge' ph' ve' si') ∧ Chg (fun k => k = r) w (((((((((w.setCell ⟨r, 0, none⟩ (.int .i64 po')).setCell ⟨r, 1, none⟩ (.int .u64 ma')).setCell ⟨r, 2, none⟩ (.int .i64 ow')).setCell ⟨r, 3, none⟩ (.int .i64 ta')).setCell ⟨r, 4, none⟩ (.int .i64 ol')).setCell ⟨r, 5, none⟩ (.int .i64 ge')).setCell ⟨r, 6, none⟩ (.int .i64 ph')).setCell ⟨r, 7, none⟩ (.int .i64 ve')).setCell ⟨r, 8, none⟩ (.int .i64 si')) := by
  have h0 := (hb.set 0 (.int .i64 po'))
  have r0 := h0.cell 0
  have h1 := ((hb.set 0 (.int .i64 po')).set 1 (.int .u64 ma'))
  have r1 := h1.cell 1
  have h2 := (((hb.set 0 (.int .i64 po')).set 1 (.int .u64 ma')).set 2 (.int .i64 ow'))
  have r2 := h2.cell 2
  have h3 := ((((hb.set 0 (.int .i64 po')).set 1 (.int .u64 ma')).set 2 (.int .i64 ow')).set 3 (.int .i64 ta'))
  have r3 := h3.cell 3
  have h4 := (((((hb.set 0 (.int .i64 po')).set 1 (.int .u64 ma')).set 2 (.int .i64 ow')).set 3 (.int .i64 ta')).set 4 (.int .i64 ol'))
  have r4 := h4.cell 4
  have h5 := ((((((hb.set 0 (.int .i64 po')).set 1 (.int .u64 ma')).set 2 (.int .i64 ow')).set 3 (.int .i64 ta')).set 4 (.int .i64 ol')).set 5 (.int .i64 ge'))
  have r5 := h5.cell 5
  have h6 := (((((((hb.set 0 (.int .i64 po')).set 1 (.int .u64 ma')).set 2 (.int .i64 ow')).set 3 (.int .i64 ta')).set 4 (.int .i64 ol')).set 5 (.int .i64 ge')).set 6 (.int .i64 ph'))
  have r6 := h6.cell 6
  have h7 := ((((((((hb.set 0 (.int .i64 po')).set 1 (.int .u64 ma')).set 2 (.int .i64 ow')).set 3 (.int .i64 ta')).set 4 (.int .i64 ol')).set 5 (.int .i64 ge')).set 6 (.int .i64 ph')).set 7 (.int .i64 ve'))
  have r7 := h7.cell 7
  have h8 := (((((((((hb.set 0 (.int .i64 po')).set 1 (.int .u64 ma')).set 2 (.int .i64 ow')).set 3 (.int .i64 ta')).set 4 (.int .i64 ol')).set 5 (.int .i64 ge')).set 6 (.int .i64 ph')).set 7 (.int .i64 ve')).set 8 (.int .i64 si'))
  have r8 := h8.cell 8
  simp only [rvC, List.setIfInBounds_toArray, List.set_cons_succ, List.set_cons_zero, List.getElem?_toArray, List.getElem?_cons_zero, List.getElem?_cons_succ] at r0 r1 r2 r3 r4 r5 r6 r7 r8 h8
  exact ⟨r0, r1, r2, r3, r4, r5, r6, r7, r8, h8, (((((((((Chg.refl (fun k => k = r) w).put r 0 (fun _ => rfl) _).put r 1 (fun _ => rfl) _).put r 2 (fun _ => rfl) _).put r 3 (fun _ => rfl) _).put r 4 (fun _ => rfl) _).put r 5 (fun _ => rfl) _).put r 6 (fun _ => rfl) _).put r 7 (fun _ => rfl) _).put r 8 (fun _ => rfl) _⟩
theorem rv_free {w : World} {r : Nat} {T : TypeId} {cs : Array Value} (hb : Blk w r T cs) : w.frozen? ⟨r, 0, none⟩ = false ∧ w.frozen? ⟨r, 1, none⟩ = false ∧ w.frozen? ⟨r, 2, none⟩ = false ∧ w.frozen? ⟨r, 3, none⟩ = false ∧ w.frozen? ⟨r, 4, none⟩ = false ∧ w.frozen? ⟨r, 5, none⟩ = false ∧ w.frozen? ⟨r, 6, none⟩ = false ∧ w.frozen? ⟨r, 7, none⟩ = false ∧ w.frozen? ⟨r, 8, none⟩ = false :=
  ⟨hb.frozen 0, hb.frozen 1, hb.frozen 2, hb.frozen 3, hb.frozen 4, hb.frozen 5, hb.frozen 6, hb.frozen 7, hb.frozen 8⟩
theorem ms_put {w : World} {r : Nat} {kd po ma ow ta ol ge ph ve si pt vr : Int} {A : Option Addr} {n c : Nat} {T : TypeId} (hb : Blk w r T (msC kd po ma ow ta ol ge ph ve si pt vr A n c)) (kd' po' ma' ow' ta' ol' ge' ph' ve' si' pt' vr' : Int) (A' : Option Addr) (n' c' : Nat) :
    (w.setCell ⟨r, 0, none⟩ (.int .i64 kd')).cell? ⟨r, 0, none⟩ = some (.int .i64 kd') ∧
    ((w.setCell ⟨r, 0, none⟩ (.int .i64 kd')).setCell ⟨r, 1, none⟩ (.int .i64 po')).cell? ⟨r, 1, none⟩ = some (.int .i64 po') ∧
    (((w.setCell ⟨r, 0, none⟩ (.int .i64 kd')).setCell ⟨r, 1, none⟩ (.int .i64 po')).setCell ⟨r, 2, none⟩ (.int .u64 ma')).cell? ⟨r, 2, none⟩ = some (.int .u64 ma') ∧
    ((((w.setCell ⟨r, 0, none⟩ (.int .i64 kd')).setCell ⟨r, 1, none⟩ (.int .i64 po')).setCell ⟨r, 2, none⟩ (.int .u64 ma')).setCell ⟨r, 3, none⟩ (.int .i64 ow')).cell? ⟨r, 3, none⟩ = some (.int .i64 ow') ∧
    (((((w.setCell ⟨r, 0, none⟩ (.int .i64 kd')).setCell ⟨r, 1, none⟩ (.int .i64 po')).setCell ⟨r, 2, none⟩ (.int .u64 ma')).setCell ⟨r, 3, none⟩ (.int .i64 ow')).setCell ⟨r, 4, none⟩ (.int .i64 ta')).cell? ⟨r, 4, none⟩ = some (.int .i64 ta') ∧
    ((((((w.setCell ⟨r, 0, none⟩ (.int .i64 kd')).setCell ⟨r, 1, none⟩ (.int .i64 po')).setCell ⟨r, 2, none⟩ (.int .u64 ma')).setCell ⟨r, 3, none⟩ (.int .i64 ow')).setCell ⟨r, 4, none⟩ (.int .i64 ta')).setCell ⟨r, 5, none⟩ (.int .i64 ol')).cell? ⟨r, 5, none⟩ = some (.int .i64 ol') ∧
    (((((((w.setCell ⟨r, 0, none⟩ (.int .i64 kd')).setCell ⟨r, 1, none⟩ (.int .i64 po')).setCell ⟨r, 2, none⟩ (.int .u64 ma')).setCell ⟨r, 3, none⟩ (.int .i64 ow')).setCell ⟨r, 4, none⟩ (.int .i64 ta')).setCell ⟨r, 5, none⟩ (.int .i64 ol')).setCell ⟨r, 6, none⟩ (.int .i64 ge')).cell? ⟨r, 6, none⟩ = some (.int .i64 ge') ∧
    ((((((((w.setCell ⟨r, 0, none⟩ (.int .i64 kd')).setCell ⟨r, 1, none⟩ (.int .i64 po')).setCell ⟨r, 2, none⟩ (.int .u64 ma')).setCell ⟨r, 3, none⟩ (.int .i64 ow')).setCell ⟨r, 4, none⟩ (.int .i64 ta')).setCell ⟨r, 5, none⟩ (.int .i64 ol')).setCell ⟨r, 6, none⟩ (.int .i64 ge')).setCell ⟨r, 7, none⟩ (.int .i64 ph')).cell? ⟨r, 7, none⟩ = some (.int .i64 ph') ∧
    (((((((((w.setCell ⟨r, 0, none⟩ (.int .i64 kd')).setCell ⟨r, 1, none⟩ (.int .i64 po')).setCell ⟨r, 2, none⟩ (.int .u64 ma')).setCell ⟨r, 3, none⟩ (.int .i64 ow')).setCell ⟨r, 4, none⟩ (.int .i64 ta')).setCell ⟨r, 5, none⟩ (.int .i64 ol')).setCell ⟨r, 6, none⟩ (.int .i64 ge')).setCell ⟨r, 7, none⟩ (.int .i64 ph')).setCell ⟨r, 8, none⟩ (.int .i64 ve')).cell? ⟨r, 8, none⟩ = some (.int .i64 ve') ∧
    ((((((((((w.setCell ⟨r, 0, none⟩ (.int .i64 kd')).setCell ⟨r, 1, none⟩ (.int .i64 po')).setCell ⟨r, 2, none⟩ (.int .u64 ma')).setCell ⟨r, 3, none⟩ (.int .i64 ow')).setCell ⟨r, 4, none⟩ (.int .i64 ta')).setCell ⟨r, 5, none⟩ (.int .i64 ol')).setCell ⟨r, 6, none⟩ (.int .i64 ge')).setCell ⟨r, 7, none⟩ (.int .i64 ph')).setCell ⟨r, 8, none⟩ (.int .i64 ve')).setCell ⟨r, 9, none⟩ (.int .i64 si')).cell? ⟨r, 9, none⟩ = some (.int .i64 si') ∧
    (((((((((((w.setCell ⟨r, 0, none⟩ (.int .i64 kd')).setCell ⟨r, 1, none⟩ (.int .i64 po')).setCell ⟨r, 2, none⟩ (.int .u64 ma')).setCell ⟨r, 3, none⟩ (.int .i64 ow')).setCell ⟨r, 4, none⟩ (.int .i64 ta')).setCell ⟨r, 5, none⟩ (.int .i64 ol')).setCell ⟨r, 6, none⟩ (.int .i64 ge')).setCell ⟨r, 7, none⟩ (.int .i64 ph')).setCell ⟨r, 8, none⟩ (.int .i64 ve')).setCell ⟨r, 9, none⟩ (.int .i64 si')).setCell ⟨r, 10, none⟩ (.int .i64 pt')).cell? ⟨r, 10, none⟩ = some (.int .i64 pt') ∧
    ((((((((((((w.setCell ⟨r, 0, none⟩ (.int .i64 kd')).setCell ⟨r, 1, none⟩ (.int .i64 po')).setCell ⟨r, 2, none⟩ (.int .u64 ma')).setCell ⟨r, 3, none⟩ (.int .i64 ow')).setCell ⟨r, 4, none⟩ (.int .i64 ta')).setCell ⟨r, 5, none⟩ (.int .i64 ol')).setCell ⟨r, 6, none⟩ (.int .i64 ge')).setCell ⟨r, 7, none⟩ (.int .i64 ph')).setCell ⟨r, 8, none⟩ (.int .i64 ve')).setCell ⟨r, 9, none⟩ (.int .i64 si')).setCell ⟨r, 10, none⟩ (.int .i64 pt')).setCell ⟨r, 11, none⟩ (.int .i64 vr')).cell? ⟨r, 11, none⟩ = some (.int .i64 vr') ∧
    (((((((((((((w.setCell ⟨r, 0, none⟩ (.int .i64 kd')).setCell ⟨r, 1, none⟩ (.int .i64 po')).setCell ⟨r, 2, none⟩ (.int .u64 ma')).setCell ⟨r, 3, none⟩ (.int .i64 ow')).setCell ⟨r, 4, none⟩ (.int .i64 ta')).setCell ⟨r, 5, none⟩ (.int .i64 ol')).setCell ⟨r, 6, none⟩ (.int .i64 ge')).setCell ⟨r, 7, none⟩ (.int .i64 ph')).setCell ⟨r, 8, none⟩ (.int .i64 ve')).setCell ⟨r, 9, none⟩ (.int .i64 si')).setCell ⟨r, 10, none⟩ (.int .i64 pt')).setCell ⟨r, 11, none⟩ (.int .i64 vr')).setCell ⟨r, 12, none⟩ (.slice A' n' c')).cell? ⟨r, 12, none⟩ = some (.slice A' n' c') ∧
    Blk (((((((((((((w.setCell ⟨r, 0, none⟩ (.int .i64 kd')).setCell ⟨r, 1, none⟩ (.int .i64 po')).setCell ⟨r, 2, none⟩ (.int .u64 ma')).setCell ⟨r, 3, none⟩ (.int .i64 ow')).setCell ⟨r, 4, none⟩ (.int .i64 ta')).setCell ⟨r, 5, none⟩ (.int .i64 ol')).setCell ⟨r, 6, none⟩ (.int .i64 ge')).setCell ⟨r, 7, none⟩ (.int .i64 ph')).setCell ⟨r, 8, none⟩ (.int .i64 ve')).setCell ⟨r, 9, none⟩ (.int .i64 si')).setCell ⟨r, 10, none⟩ (.int .i64 pt')).setCell ⟨r, 11, none⟩ (.int .i64 vr')).setCell ⟨r, 12, none⟩ (.slice A' n' c')) r T (msC kd' po' ma' ow' ta' ol' ge' ph' ve' si' pt' vr' A' n' c') ∧ Chg (fun k => k = r) w (((((((((((((w.setCell ⟨r, 0, none⟩ (.int .i64 kd')).setCell ⟨r, 1, none⟩ (.int .i64 po')).setCell ⟨r, 2, none⟩ (.int .u64 ma')).setCell ⟨r, 3, none⟩ (.int .i64 ow')).setCell ⟨r, 4, none⟩ (.int .i64 ta')).setCell ⟨r, 5, none⟩ (.int .i64 ol')).setCell ⟨r, 6, none⟩ (.int .i64 ge')).setCell ⟨r, 7, none⟩ (.int .i64 ph')).setCell ⟨r, 8, none⟩ (.int .i64 ve')).setCell ⟨r, 9, none⟩ (.int .i64 si')).setCell ⟨r, 10, none⟩ (.int .i64 pt')).setCell ⟨r, 11, none⟩ (.int .i64 vr')).setCell ⟨r, 12, none⟩ (.slice A' n' c')) := by
  have h0 := (hb.set 0 (.int .i64 kd'))
  have r0 := h0.cell 0
  have h1 := ((hb.set 0 (.int .i64 kd')).set 1 (.int .i64 po'))
  have r1 := h1.cell 1
  have h2 := (((hb.set 0 (.int .i64 kd')).set 1 (.int .i64 po')).set 2 (.int .u64 ma'))
  have r2 := h2.cell 2
  have h3 := ((((hb.set 0 (.int .i64 kd')).set 1 (.int .i64 po')).set 2 (.int .u64 ma')).set 3 (.int .i64 ow'))
  have r3 := h3.cell 3
  have h4 := (((((hb.set 0 (.int .i64 kd')).set 1 (.int .i64 po')).set 2 (.int .u64 ma')).set 3 (.int .i64 ow')).set 4 (.int .i64 ta'))
  have r4 := h4.cell 4
  have h5 := ((((((hb.set 0 (.int .i64 kd')).set 1 (.int .i64 po')).set 2 (.int .u64 ma')).set 3 (.int .i64 ow')).set 4 (.int .i64 ta')).set 5 (.int .i64 ol'))
  have r5 := h5.cell 5
  have h6 := (((((((hb.set 0 (.int .i64 kd')).set 1 (.int .i64 po')).set 2 (.int .u64 ma')).set 3 (.int .i64 ow')).set 4 (.int .i64 ta')).set 5 (.int .i64 ol')).set 6 (.int .i64 ge'))
  have r6 := h6.cell 6
  have h7 := ((((((((hb.set 0 (.int .i64 kd')).set 1 (.int .i64 po')).set 2 (.int .u64 ma')).set 3 (.int .i64 ow')).set 4 (.int .i64 ta')).set 5 (.int .i64 ol')).set 6 (.int .i64 ge')).set 7 (.int .i64 ph'))
  have r7 := h7.cell 7
  have h8 := (((((((((hb.set 0 (.int .i64 kd')).set 1 (.int .i64 po')).set 2 (.int .u64 ma')).set 3 (.int .i64 ow')).set 4 (.int .i64 ta')).set 5 (.int .i64 ol')).set 6 (.int .i64 ge')).set 7 (.int .i64 ph')).set 8 (.int .i64 ve'))
  have r8 := h8.cell 8
  have h9 := ((((((((((hb.set 0 (.int .i64 kd')).set 1 (.int .i64 po')).set 2 (.int .u64 ma')).set 3 (.int .i64 ow')).set 4 (.int .i64 ta')).set 5 (.int .i64 ol')).set 6 (.int .i64 ge')).set 7 (.int .i64 ph')).set 8 (.int .i64 ve')).set 9 (.int .i64 si'))
  have r9 := h9.cell 9
  have h10 := (((((((((((hb.set 0 (.int .i64 kd')).set 1 (.int .i64 po')).set 2 (.int .u64 ma')).set 3 (.int .i64 ow')).set 4 (.int .i64 ta')).set 5 (.int .i64 ol')).set 6 (.int .i64 ge')).set 7 (.int .i64 ph')).set 8 (.int .i64 ve')).set 9 (.int .i64 si')).set 10 (.int .i64 pt'))
  have r10 := h10.cell 10
  have h11 := ((((((((((((hb.set 0 (.int .i64 kd')).set 1 (.int .i64 po')).set 2 (.int .u64 ma')).set 3 (.int .i64 ow')).set 4 (.int .i64 ta')).set 5 (.int .i64 ol')).set 6 (.int .i64 ge')).set 7 (.int .i64 ph')).set 8 (.int .i64 ve')).set 9 (.int .i64 si')).set 10 (.int .i64 pt')).set 11 (.int .i64 vr'))
  have r11 := h11.cell 11
  have h12 := (((((((((((((hb.set 0 (.int .i64 kd')).set 1 (.int .i64 po')).set 2 (.int .u64 ma')).set 3 (.int .i64 ow')).set 4 (.int .i64 ta')).set 5 (.int .i64 ol')).set 6 (.int .i64 ge')).set 7 (.int .i64 ph')).set 8 (.int .i64 ve')).set 9 (.int .i64 si')).set 10 (.int .i64 pt')).set 11 (.int .i64 vr')).set 12 (.slice A' n' c'))
  have r12 := h12.cell 12
  simp only [msC, List.setIfInBounds_toArray, List.set_cons_succ, List.set_cons_zero, List.getElem?_toArray, List.getElem?_cons_zero, List.getElem?_cons_succ] at r0 r1 r2 r3 r4 r5 r6 r7 r8 r9 r10 r11 r12 h12
  exact ⟨r0, r1, r2, r3, r4, r5, r6, r7, r8, r9, r10, r11, r12, h12, (((((((((((((Chg.refl (fun k => k = r) w).put r 0 (fun _ => rfl) _).put r 1 (fun _ => rfl) _).put r 2 (fun _ => rfl) _).put r 3 (fun _ => rfl) _).put r 4 (fun _ => rfl) _).put r 5 (fun _ => rfl) _).put r 6 (fun _ => rfl) _).put r 7 (fun _ => rfl) _).put r 8 (fun _ => rfl) _).put r 9 (fun _ => rfl) _).put r 10 (fun _ => rfl) _).put r 11 (fun _ => rfl) _).put r 12 (fun _ => rfl) _⟩
theorem ms_free {w : World} {r : Nat} {T : TypeId} {cs : Array Value} (hb : Blk w r T cs) : w.frozen? ⟨r, 0, none⟩ = false ∧ w.frozen? ⟨r, 1, none⟩ = false ∧ w.frozen? ⟨r, 2, none⟩ = false ∧ w.frozen? ⟨r, 3, none⟩ = false ∧ w.frozen? ⟨r, 4, none⟩ = false ∧ w.frozen? ⟨r, 5, none⟩ = false ∧ w.frozen? ⟨r, 6, none⟩ = false ∧ w.frozen? ⟨r, 7, none⟩ = false ∧ w.frozen? ⟨r, 8, none⟩ = false ∧ w.frozen? ⟨r, 9, none⟩ = false ∧ w.frozen? ⟨r, 10, none⟩ = false ∧ w.frozen? ⟨r, 11, none⟩ = false ∧ w.frozen? ⟨r, 12, none⟩ = false :=
  ⟨hb.frozen 0, hb.frozen 1, hb.frozen 2, hb.frozen 3, hb.frozen 4, hb.frozen 5, hb.frozen 6, hb.frozen 7, hb.frozen 8, hb.frozen 9, hb.frozen 10, hb.frozen 11, hb.frozen 12⟩
theorem cget (p k : Nat) (S : Nat → Prop) (st : Option (List UInt8)) (w : World) (h : Rd 83 true w p S st) :
    Calls Try.prog 31 #[.pointer (some ⟨p, 0, none⟩), .int .i64 (k : Int)] w fun e w' => e = .returned (.int .i64 (gv k st)) ∧ Rd 83 true w' p S (gn k st) ∧ Chg (fun k => k = p) w w' := get_any p S st k w h
theorem u64_wrap {x : Int} (h : 0 ≤ x ∧ x ≤ 18446744073709551615) : IntKind.u64.wrap x = x := by
  rw [IntKind.wrap_u64]
  omega
theorem u32_wrap {x : Int} (h : 0 ≤ x ∧ x ≤ 4294967295) : IntKind.u32.wrap x = x := by
  rw [IntKind.wrap_u32]
  omega
theorem Chg.past {p : Nat} {w0 w w' : World} (h : Chg (fun k => k = p) w0 w) (m : Chg (fun k => k = p) w w') : Chg (fun k => k = p) w0 w' := h.trans m (fun _ _ e => e)
theorem Chg.new {p r : Nat} {w0 w w' : World} (h : Chg (fun k => k = p) w0 w) (m : Chg (fun k => k = r) w w') (hr : w0.heap.size ≤ r) : Chg (fun k => k = p) w0 w' := h.trans m (fun i hi hs => by omega)

set_option maxHeartbeats 4000000 in
theorem getrow_any (p : Nat) (S : Nat → Prop) (st : Option (List UInt8)) (w : World) (h : Rd 83 true w p S st) (hS : ∀ k, S k → k < p) :
    Calls Try.prog 32 #[.pointer (some ⟨p, 0, none⟩)] w fun e w' => e = .returned (.agg (rvC (rv st 0) (rv st 1) (rv st 2 - 1) (rv st 3 - 1) (rv st 4 - 1) (rv st 6) (rv st 5) (rv st 7) (rv st 8))) ∧ Rd 83 true w' p S (rs st 9) ∧ Chg (fun k => k = p) w w' := by
  have hp := h.lt
  have HS := Lib.hid hS
  have HR : Hid (Blk (w.alloc (.cells #[.int .i64 0, .int .u64 0, .int .i64 0, .int .i64 0, .int .i64 0, .int .i64 0, .int .i64 0, .int .i64 0, .int .i64 0] 25)) w.heap.size 25 (rvC 0 0 0 0 0 0 0 0 0)) := Lib.hid (blk_new rfl)
  have HC := Lib.hid ((Chg.refl (fun k => k = p) w).alloc (.cells #[.int .i64 0, .int .u64 0, .int .i64 0, .int .i64 0, .int .i64 0, .int .i64 0, .int .i64 0, .int .i64 0, .int .i64 0] 25))
  have HRD := Lib.hid (show Rd 83 true (w.alloc (.cells #[.int .i64 0, .int .u64 0, .int .i64 0, .int .i64 0, .int .i64 0, .int .i64 0, .int .i64 0, .int .i64 0, .int .i64 0] 25)) p S (rs st 0) from h.chg ((Chg.refl (fun _ => False) w).alloc _) id (fun _ _ => id))
  have g1 := gv_range 6 (rs st 1)
  have g2 := gv_range 1 (rs st 2)
  have g3 := gv_range 1 (rs st 3)
  have g4 := gv_range 1 (rs st 4)
  have a1 : IntKind.u64.wrap (rv st 1) = rv st 1 := u64_wrap ⟨g1.1, Int.le_trans g1.2 (by decide)⟩
  have a2 : IntKind.i64.wrap (rv st 2 - 1) = rv st 2 - 1 := i64_wrap (by have e : rv st 2 = gv 1 (rs st 2) := rfl; omega)
  have a3 : IntKind.i64.wrap (rv st 3 - 1) = rv st 3 - 1 := i64_wrap (by have e : rv st 3 = gv 1 (rs st 3) := rfl; omega)
  have a4 : IntKind.i64.wrap (rv st 4 - 1) = rv st 4 - 1 := i64_wrap (by have e : rv st 4 = gv 1 (rs st 4) := rfl; omega)
  clear h hS g1 g2 g3 g4
  go_enter Try.func32, Try.ntmps32
  have HG := Lib.hid (show Calls _ _ _ _ (fun e w' => e = .returned (.int .i64 (rv st 0)) ∧ Rd 83 true w' p S (rs st 1) ∧ Chg (fun k => k = p) _ w') from cget p 1 S (rs st 0) _ HRD.out)
  go_wp2_with fail
  refine HG.out.mono ?_
  rintro e w0 ⟨rfl, hrd, hc'⟩
  replace HC := Lib.hid (HC.out.past hc')
  replace HR := Lib.hid (HR.out.chg hc' (by omega))
  replace HRD := Lib.hid hrd
  clear HG hrd hc'
  have HG := Lib.hid (show Calls _ _ _ _ (fun e w' => e = .returned (.int .i64 (rv st 1)) ∧ Rd 83 true w' p S (rs st 2) ∧ Chg (fun k => k = p) _ w') from cget p 6 S (rs st 1) _ HRD.out)
  go_wp2_with fail
  refine HG.out.mono ?_
  rintro e w1 ⟨rfl, hrd, hc'⟩
  replace HC := Lib.hid (HC.out.past hc')
  replace HR := Lib.hid (HR.out.chg hc' (by omega))
  replace HRD := Lib.hid hrd
  clear HG hrd hc'
  have HG := Lib.hid (show Calls _ _ _ _ (fun e w' => e = .returned (.int .i64 (rv st 2)) ∧ Rd 83 true w' p S (rs st 3) ∧ Chg (fun k => k = p) _ w') from cget p 1 S (rs st 2) _ HRD.out)
  go_wp2_with fail
  refine HG.out.mono ?_
  rintro e w2 ⟨rfl, hrd, hc'⟩
  replace HC := Lib.hid (HC.out.past hc')
  replace HR := Lib.hid (HR.out.chg hc' (by omega))
  replace HRD := Lib.hid hrd
  clear HG hrd hc'
  have HG := Lib.hid (show Calls _ _ _ _ (fun e w' => e = .returned (.int .i64 (rv st 3)) ∧ Rd 83 true w' p S (rs st 4) ∧ Chg (fun k => k = p) _ w') from cget p 1 S (rs st 3) _ HRD.out)
  go_wp2_with fail
  refine HG.out.mono ?_
  rintro e w3 ⟨rfl, hrd, hc'⟩
  replace HC := Lib.hid (HC.out.past hc')
  replace HR := Lib.hid (HR.out.chg hc' (by omega))
  replace HRD := Lib.hid hrd
  clear HG hrd hc'
  have HG := Lib.hid (show Calls _ _ _ _ (fun e w' => e = .returned (.int .i64 (rv st 4)) ∧ Rd 83 true w' p S (rs st 5) ∧ Chg (fun k => k = p) _ w') from cget p 1 S (rs st 4) _ HRD.out)
  go_wp2_with fail
  refine HG.out.mono ?_
  rintro e w4 ⟨rfl, hrd, hc'⟩
  replace HC := Lib.hid (HC.out.past hc')
  replace HR := Lib.hid (HR.out.chg hc' (by omega))
  replace HRD := Lib.hid hrd
  clear HG hrd hc'
  have HG := Lib.hid (show Calls _ _ _ _ (fun e w' => e = .returned (.int .i64 (rv st 5)) ∧ Rd 83 true w' p S (rs st 6) ∧ Chg (fun k => k = p) _ w') from cget p 1 S (rs st 5) _ HRD.out)
  go_wp2_with fail
  refine HG.out.mono ?_
  rintro e w5 ⟨rfl, hrd, hc'⟩
  replace HC := Lib.hid (HC.out.past hc')
  replace HR := Lib.hid (HR.out.chg hc' (by omega))
  replace HRD := Lib.hid hrd
  clear HG hrd hc'
  have HG := Lib.hid (show Calls _ _ _ _ (fun e w' => e = .returned (.int .i64 (rv st 6)) ∧ Rd 83 true w' p S (rs st 7) ∧ Chg (fun k => k = p) _ w') from cget p 5 S (rs st 6) _ HRD.out)
  go_wp2_with fail
  refine HG.out.mono ?_
  rintro e w6 ⟨rfl, hrd, hc'⟩
  replace HC := Lib.hid (HC.out.past hc')
  replace HR := Lib.hid (HR.out.chg hc' (by omega))
  replace HRD := Lib.hid hrd
  clear HG hrd hc'
  have HG := Lib.hid (show Calls _ _ _ _ (fun e w' => e = .returned (.int .i64 (rv st 7)) ∧ Rd 83 true w' p S (rs st 8) ∧ Chg (fun k => k = p) _ w') from cget p 6 S (rs st 7) _ HRD.out)
  go_wp2_with fail
  refine HG.out.mono ?_
  rintro e w7 ⟨rfl, hrd, hc'⟩
  replace HC := Lib.hid (HC.out.past hc')
  replace HR := Lib.hid (HR.out.chg hc' (by omega))
  replace HRD := Lib.hid hrd
  clear HG hrd hc'
  have HG := Lib.hid (show Calls _ _ _ _ (fun e w' => e = .returned (.int .i64 (rv st 8)) ∧ Rd 83 true w' p S (rs st 9) ∧ Chg (fun k => k = p) _ w') from cget p 6 S (rs st 8) _ HRD.out)
  go_wp2_with fail
  refine HG.out.mono ?_
  rintro e w8 ⟨rfl, hrd, hc'⟩
  replace HC := Lib.hid (HC.out.past hc')
  replace HR := Lib.hid (HR.out.chg hc' (by omega))
  replace HRD := Lib.hid hrd
  clear HG hrd hc'
  obtain ⟨x0, x1, x2, x3, x4, x5, x6, x7, x8⟩ := rv_cells HR.out
  obtain ⟨u0, u1, u2, u3, u4, u5, u6, u7, u8⟩ := rv_free HR.out
  obtain ⟨r0, r1, r2, r3, r4, r5, r6, r7, r8, _, hcs⟩ := rv_put HR.out (rv st 0) (rv st 1) (rv st 2 - 1) (rv st 3 - 1) (rv st 4 - 1) (rv st 6) (rv st 5) (rv st 7) (rv st 8)
  replace HC := Lib.hid (HC.out.new hcs (Nat.le_refl _))
  replace HRD := Lib.hid (HRD.out.chg hcs (by omega) (fun k hk => by have := HS.out k hk; omega))
  have RR := Lib.hid (And.intro r0 (And.intro r1 (And.intro r2 (And.intro r3 (And.intro r4 (And.intro r5 (And.intro r6 (And.intro r7 r8))))))))
  clear r0 r1 r2 r3 r4 r5 r6 r7 r8 hcs
  go_wp2_with fail
  obtain ⟨r0, r1, r2, r3, r4, r5, r6, r7, r8⟩ := RR.out
  exact bodyPost_ret (v := .agg (rvC (rv st 0) (rv st 1) (rv st 2 - 1) (rv st 3 - 1) (rv st 4 - 1) (rv st 6) (rv st 5) (rv st 7) (rv st 8))) (by simp [results, Try.results32, go_sem, rvC, r0, r1, r2, r3, r4, r5, r6, r7, r8]) rfl ⟨rfl, HRD.out, HC.out⟩

end Go.Proofs.Ytalfbijcjghemaa
