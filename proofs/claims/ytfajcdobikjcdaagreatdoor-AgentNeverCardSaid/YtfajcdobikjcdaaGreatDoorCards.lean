/-
  DERIVED. GIVEN WITH THE SEED: THE CARDS: each row of YtfajcdobikjcdaaGreatDoorRows.lean that lists a variable, with what it lists TIED to the program's text (the seventh form; the later family's looks); each row that meets fmt, with fmt's text TOLD by the authors' own Lean function (tested against real Go, not proved from fmt's source: count such statements apart). THE CARD IS WHAT COUNTS. Prove the row's statement (the work); the ties are given (YtfajcdobikjcdaaGreatDoorTie.lean); close each card by the builder's one call (the guide's Derived/Test/ToyasCard.lean, 'card_holds'). Laid BY PROGRAM, IN A SANDBOX (cutbox-door.mjs). By AI agents, Wed Nov 11 2026. No macro, syntax, notation, axiom, sorry.
-/
import Derived.Test.YtfajcdobikjcdaaGreatDoorRows
import GoSem.ClaimSeven
namespace Go.Proofs.YtfajcdobikjcdaaGreatDoor
namespace Rows

/-- THE TIED CARD OF 'rutterlaw16.AgentNever'. -/
def agentNeverCard : Claim7 := { stood := { row := agentNeverRow, standIns := [], harness := (true, "7a512ecbadfde248b6c27c4bd9972c6cb31735118960662e35f79739fce05931"), looks := false }, kinds := [], alts := [], laidByText := true, laidKinds := [.data], laidTests := true, laidLooks := .later }
def AgentNeverCardSaid : Prop := Claim7.holds Tryz.pinned (.plain (OpenSpec.ofChange agentNeverSpec)) agentNeverCard

/-- THE SECOND FORM's CARD OF 'rutterlaw16.AgentNever'. -/
def agentNeverUptoCard : Claim7 := { stood := { row := agentNeverUptoRow, standIns := [], harness := (true, "7a512ecbadfde248b6c27c4bd9972c6cb31735118960662e35f79739fce05931"), looks := false }, kinds := [], alts := [], laidByText := true, laidKinds := [.data], laidTests := true, laidLooks := .later }
def AgentNeverUptoCardSaid : Prop := Claim7.holds Tryz.pinned (.plain (OpenSpec.upto agentNeverSpec)) agentNeverUptoCard
end Rows
end Go.Proofs.YtfajcdobikjcdaaGreatDoor
