/-
  DERIVED. GIVEN WITH THE SEED: THE CARDS: each row of YtecnicbicbgapaaDoorRows.lean that lists a variable, with what it lists TIED to the program's text (the seventh form; the later family's looks); each row that meets fmt, with fmt's text TOLD by the authors' own Lean function (tested against real Go, not proved from fmt's source: count such statements apart). THE CARD IS WHAT COUNTS. Prove the row's statement (the work); the ties are given (YtecnicbicbgapaaDoorTie.lean); close each card by the builder's one call (the guide's Derived/Test/ToyasCard.lean, 'card_holds'). Laid BY PROGRAM, IN A SANDBOX (cutbox-door.mjs). By AI agents, Wed Nov 11 2026. No macro, syntax, notation, axiom, sorry.
-/
import Derived.Test.YtecnicbicbgapaaDoorRows
import GoSem.ClaimSeven
namespace Go.Proofs.YtecnicbicbgapaaDoor
namespace Rows

/-- THE TIED CARD OF 'rutterlaw04.InetTells'. -/
def inetTellsCard : Claim7 := { stood := { row := inetTellsRow, standIns := [], harness := (true, "360832b205f5bdd383e7a73f4a0f880d12d2a498f5b0ddf089d1561ee179f358"), looks := false }, kinds := [], alts := [], laidByText := true, laidKinds := [.data], laidTests := true, laidLooks := .later }
def InetTellsCardSaid : Prop := Claim7.holds Tryd.pinned (.plain (OpenSpec.ofChange inetTellsSpec)) inetTellsCard

/-- THE TIED CARD OF 'rutterlaw04.InetBytes'. -/
def inetBytesCard : Claim7 := { stood := { row := inetBytesRow, standIns := [], harness := (true, "360832b205f5bdd383e7a73f4a0f880d12d2a498f5b0ddf089d1561ee179f358"), looks := false }, kinds := [], alts := [], laidByText := true, laidKinds := [.data], laidTests := true, laidLooks := .later }
def InetBytesCardSaid : Prop := Claim7.holds Tryd.pinned (.plain (OpenSpec.ofChange inetBytesSpec)) inetBytesCard

/-- THE SECOND FORM's CARD OF 'rutterlaw04.InetTells'. -/
def inetTellsUptoCard : Claim7 := { stood := { row := inetTellsUptoRow, standIns := [], harness := (true, "360832b205f5bdd383e7a73f4a0f880d12d2a498f5b0ddf089d1561ee179f358"), looks := false }, kinds := [], alts := [], laidByText := true, laidKinds := [.data], laidTests := true, laidLooks := .later }
def InetTellsUptoCardSaid : Prop := Claim7.holds Tryd.pinned (.plain (OpenSpec.upto inetTellsSpec)) inetTellsUptoCard

/-- THE SECOND FORM's CARD OF 'rutterlaw04.InetBytes'. -/
def inetBytesUptoCard : Claim7 := { stood := { row := inetBytesUptoRow, standIns := [], harness := (true, "360832b205f5bdd383e7a73f4a0f880d12d2a498f5b0ddf089d1561ee179f358"), looks := false }, kinds := [], alts := [], laidByText := true, laidKinds := [.data], laidTests := true, laidLooks := .later }
def InetBytesUptoCardSaid : Prop := Claim7.holds Tryd.pinned (.plain (OpenSpec.upto inetBytesSpec)) inetBytesUptoCard
end Rows
end Go.Proofs.YtecnicbicbgapaaDoor
