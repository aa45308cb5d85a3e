/-
  DERIVED. GIVEN WITH THE SEED: THE CARDS: each row of YtnakljbginbenaaGreatDoorRows.lean that lists a variable, with what it lists TIED to the program's text (the seventh form; the later family's looks); each row that meets fmt, with fmt's text TOLD by the authors' own Lean function (tested against real Go, not proved from fmt's source: count such statements apart). THE CARD IS WHAT COUNTS. Prove the row's statement (the work); the ties are given (YtnakljbginbenaaGreatDoorTie.lean); close each card by the builder's one call (the guide's Derived/Test/ToyasCard.lean, 'card_holds'). Laid BY PROGRAM, IN A SANDBOX (cutbox-door.mjs). By AI agents, Wed Nov 11 2026. No macro, syntax, notation, axiom, sorry.
-/
import Derived.Test.YtnakljbginbenaaGreatDoorRows
import GoSem.ClaimSeven
namespace Go.Proofs.YtnakljbginbenaaGreatDoor
namespace Rows

/-- THE TIED CARD OF 'derricklaw06.MessageTells'. -/
def messageTellsCard : Claim7 := { stood := { row := messageTellsRow, standIns := [], harness := (true, "a7b90fe2f18bc4b09239b3aa00627966022e934c20bdc8d39df197e595f7f554"), looks := false }, kinds := [], alts := [], laidByText := true, laidKinds := [.data], laidTests := true, laidLooks := .later }
def MessageTellsCardSaid : Prop := Claim7.holds Tryz.pinned (.plain (OpenSpec.ofChange messageTellsSpec)) messageTellsCard

/-- THE TIED CARD OF 'derricklaw06.MessageTakes'. -/
def messageTakesCard : Claim7 := { stood := { row := messageTakesRow, standIns := [], harness := (true, "a7b90fe2f18bc4b09239b3aa00627966022e934c20bdc8d39df197e595f7f554"), looks := false }, kinds := [], alts := [], laidByText := true, laidKinds := [.data], laidTests := true, laidLooks := .later }
def MessageTakesCardSaid : Prop := Claim7.holds Tryz.pinned (.plain (OpenSpec.ofChange messageTakesSpec)) messageTakesCard

/-- THE TIED CARD OF 'derricklaw06.MessageCuts'. -/
def messageCutsCard : Claim7 := { stood := { row := messageCutsRow, standIns := [], harness := (true, "a7b90fe2f18bc4b09239b3aa00627966022e934c20bdc8d39df197e595f7f554"), looks := false }, kinds := [], alts := [], laidByText := true, laidKinds := [.data], laidTests := true, laidLooks := .later }
def MessageCutsCardSaid : Prop := Claim7.holds Tryz.pinned (.plain (OpenSpec.ofChange messageCutsSpec)) messageCutsCard

/-- THE SECOND FORM's CARD OF 'derricklaw06.MessageTells'. -/
def messageTellsUptoCard : Claim7 := { stood := { row := messageTellsUptoRow, standIns := [], harness := (true, "a7b90fe2f18bc4b09239b3aa00627966022e934c20bdc8d39df197e595f7f554"), looks := false }, kinds := [], alts := [], laidByText := true, laidKinds := [.data], laidTests := true, laidLooks := .later }
def MessageTellsUptoCardSaid : Prop := Claim7.holds Tryz.pinned (.plain (OpenSpec.upto messageTellsSpec)) messageTellsUptoCard

/-- THE SECOND FORM's CARD OF 'derricklaw06.MessageTakes'. -/
def messageTakesUptoCard : Claim7 := { stood := { row := messageTakesUptoRow, standIns := [], harness := (true, "a7b90fe2f18bc4b09239b3aa00627966022e934c20bdc8d39df197e595f7f554"), looks := false }, kinds := [], alts := [], laidByText := true, laidKinds := [.data], laidTests := true, laidLooks := .later }
def MessageTakesUptoCardSaid : Prop := Claim7.holds Tryz.pinned (.plain (OpenSpec.upto messageTakesSpec)) messageTakesUptoCard

/-- THE SECOND FORM's CARD OF 'derricklaw06.MessageCuts'. -/
def messageCutsUptoCard : Claim7 := { stood := { row := messageCutsUptoRow, standIns := [], harness := (true, "a7b90fe2f18bc4b09239b3aa00627966022e934c20bdc8d39df197e595f7f554"), looks := false }, kinds := [], alts := [], laidByText := true, laidKinds := [.data], laidTests := true, laidLooks := .later }
def MessageCutsUptoCardSaid : Prop := Claim7.holds Tryz.pinned (.plain (OpenSpec.upto messageCutsSpec)) messageCutsUptoCard
end Rows
end Go.Proofs.YtnakljbginbenaaGreatDoor
