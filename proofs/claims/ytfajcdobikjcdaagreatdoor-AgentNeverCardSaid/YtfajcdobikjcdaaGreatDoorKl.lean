/-
  The condition on the table of widths, as the row lists it, gives the walks their cells; the witness: the heap that the initialisers leave. No condition.
-/
import Derived.Test.YtfajcdobikjcdaaGreatDoorM2
import Derived.Test.YtfajcdobikjcdaaGreatDoorM1
import Derived.Test.YtfajcdobikjcdaaGreatDoorRows
import Derived.ProofKit
import Derived.LaidMore
import Derived.OpenShut
import Derived.Stop.Joined
import Derived.Lib.LaidTab
set_option linter.unusedVariables false
set_option linter.unusedSimpArgs false
namespace Go.Proofs.YtfajcdobikjcdaaGreatDoor
open Go.Value (int)
open Go.IntKind (i64)
open Go.ChangeShapes Go.WideShapes Go.ChangeAt Go.RowKit
theorem gWid : Tryz.prog.globalNamed "rutter/inet.widths" = some 0 := by kernel_rfl
theorem tWid : (Tryz.prog.globals[0]?).map (·.type) = some 203:=by kernel_rfl
def laidW : List (String × DataW Unit) := [("rutter/inet.widths", Rows.laid_rutter_inet_widths)]
theorem gw_of_laid {W : World} (h : laidMetH Tryz.prog laidW W) : Gw W:=by
 rw [MakeChecks.laidMetH_plain _ _ _ (by kernel_rfl)] at h
 have hT : Lib.TabIs Tryz.prog W "rutter/inet.widths" .i64 [1, 1, 2, 2, 2, 1, 1, 2, 4, 4, 2, 2] :=
  Lib.tabIs_of_head gWid tWid Tryz.underlying203 Tryz.underlying3 (by kernel_rfl) (by kernel_rfl) h
 have hc : ∀ k,k < 12 → W.cell? ⟨0,k,none⟩ = some (int i64 ((wds.getD k 0 : Nat) : Int)):=by
  intro k hk
  have h2:=hT.cell gWid k hk
  have hk' : k = 0 ∨ k = 1 ∨ k = 2 ∨ k = 3 ∨ k = 4 ∨ k = 5 ∨ k = 6 ∨ k = 7 ∨ k = 8 ∨ k = 9 ∨ k = 10 ∨ k = 11:=by omega
  rcases hk' with rfl | rfl | rfl | rfl | rfl | rfl | rfl | rfl | rfl | rfl | rfl | rfl <;> exact h2
 exact ⟨World.block_lt_of_cell? W _ (hc 0 (by decide)),hc⟩
theorem door_met (os : Os) (args : Array Value) : laidMetH Tryz.prog laidW ((World.doorLaid Tryz.prog 14 os).forCall (fun _ _=>0) ⟨#[],args, []⟩).memory :=
 laidMetH_of_parts3 (fuel:=8) (laidMet_of_run' 8 (by kernel_rfl) (by kernel_rfl)) (by kernel_rfl) (by kernel_rfl)
theorem ownK : ownKnob Tryz.prog.godebug = none:=by kernel_rfl
theorem laidOutK : laidOutB Tryz.prog = true:=by kernel_rfl
theorem rowK_caps {k : IntKind} {w : World} {a : Option Addr} {len cap : Nat} {zs : List Int} (h : IsRow k w a len cap zs) : len ≤ cap ∧ cap ≤ maxLen:=by
 rcases h with ⟨_,rfl,rfl,_⟩ | ⟨x,_,h1,h2,_⟩
 ·exact ⟨Nat.le_refl _,Nat.zero_le _⟩
 ·exact ⟨h1,h2⟩
end Go.Proofs.YtfajcdobikjcdaaGreatDoor
