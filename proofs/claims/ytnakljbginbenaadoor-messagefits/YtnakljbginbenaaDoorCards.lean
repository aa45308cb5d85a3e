/-
  DERIVED. GIVEN WITH THE SEED: THE CARDS: each row of YtnakljbginbenaaDoorRows.lean that lists a variable, with what it lists TIED to the program's text (the seventh form; the later family's looks); each row that meets fmt, with fmt's text TOLD by the authors' own Lean function (tested against real Go, not proved from fmt's source: count such statements apart). THE CARD IS WHAT COUNTS. Prove the row's statement (the work); the ties are given (YtnakljbginbenaaDoorTie.lean); close each card by the builder's one call (the guide's Derived/Test/ToyasCard.lean, 'card_holds'). Laid BY PROGRAM, IN A SANDBOX (cutbox-door.mjs). By AI agents, Wed Nov 11 2026. No macro, syntax, notation, axiom, sorry.
-/
import Derived.Test.YtnakljbginbenaaDoorRows
import GoSem.ClaimSeven
namespace Go.Proofs.YtnakljbginbenaaDoor
namespace Rows

/-- THE TIED CARD OF 'derricklaw06.MessageBack'. -/
def messageBackCard : Claim7 := { stood := { row := messageBackRow, standIns := [], harness := (true, "6b29cfdc5deb88dd17f68453570bee02a8c03fb8a4c30f6d0e55ee171f8613ea"), looks := false }, kinds := [], alts := [], laidByText := true, laidKinds := [.data], laidTests := true, laidLooks := .later }
def MessageBackCardSaid : Prop := Claim7.holds Tryd.pinned (.plain (OpenSpec.ofChange messageBackSpec)) messageBackCard

/-- THE TIED CARD OF 'derricklaw06.MessageVery'. -/
def messageVeryCard : Claim7 := { stood := { row := messageVeryRow, standIns := [], harness := (true, "6b29cfdc5deb88dd17f68453570bee02a8c03fb8a4c30f6d0e55ee171f8613ea"), looks := false }, kinds := [], alts := [], laidByText := true, laidKinds := [.data], laidTests := true, laidLooks := .later }
def MessageVeryCardSaid : Prop := Claim7.holds Tryd.pinned (.plain (OpenSpec.ofChange messageVerySpec)) messageVeryCard

/-- THE TIED CARD OF 'derricklaw06.MessageFits'. -/
def messageFitsCard : Claim7 := { stood := { row := messageFitsRow, standIns := [], harness := (true, "6b29cfdc5deb88dd17f68453570bee02a8c03fb8a4c30f6d0e55ee171f8613ea"), looks := false }, kinds := [], alts := [], laidByText := true, laidKinds := [.data], laidTests := true, laidLooks := .later }
def MessageFitsCardSaid : Prop := Claim7.holds Tryd.pinned (.plain (OpenSpec.ofChange messageFitsSpec)) messageFitsCard

/-- THE TIED CARD OF 'derricklaw06.MessageReply'. -/
def messageReplyCard : Claim7 := { stood := { row := messageReplyRow, standIns := [], harness := (true, "6b29cfdc5deb88dd17f68453570bee02a8c03fb8a4c30f6d0e55ee171f8613ea"), looks := false }, kinds := [], alts := [], laidByText := true, laidKinds := [.data], laidTests := true, laidLooks := .later }
def MessageReplyCardSaid : Prop := Claim7.holds Tryd.pinned (.plain (OpenSpec.ofChange messageReplySpec)) messageReplyCard

/-- THE SECOND FORM's CARD OF 'derricklaw06.MessageBack'. -/
def messageBackUptoCard : Claim7 := { stood := { row := messageBackUptoRow, standIns := [], harness := (true, "6b29cfdc5deb88dd17f68453570bee02a8c03fb8a4c30f6d0e55ee171f8613ea"), looks := false }, kinds := [], alts := [], laidByText := true, laidKinds := [.data], laidTests := true, laidLooks := .later }
def MessageBackUptoCardSaid : Prop := Claim7.holds Tryd.pinned (.plain (OpenSpec.upto messageBackSpec)) messageBackUptoCard

/-- THE SECOND FORM's CARD OF 'derricklaw06.MessageVery'. -/
def messageVeryUptoCard : Claim7 := { stood := { row := messageVeryUptoRow, standIns := [], harness := (true, "6b29cfdc5deb88dd17f68453570bee02a8c03fb8a4c30f6d0e55ee171f8613ea"), looks := false }, kinds := [], alts := [], laidByText := true, laidKinds := [.data], laidTests := true, laidLooks := .later }
def MessageVeryUptoCardSaid : Prop := Claim7.holds Tryd.pinned (.plain (OpenSpec.upto messageVerySpec)) messageVeryUptoCard

/-- THE SECOND FORM's CARD OF 'derricklaw06.MessageFits'. -/
def messageFitsUptoCard : Claim7 := { stood := { row := messageFitsUptoRow, standIns := [], harness := (true, "6b29cfdc5deb88dd17f68453570bee02a8c03fb8a4c30f6d0e55ee171f8613ea"), looks := false }, kinds := [], alts := [], laidByText := true, laidKinds := [.data], laidTests := true, laidLooks := .later }
def MessageFitsUptoCardSaid : Prop := Claim7.holds Tryd.pinned (.plain (OpenSpec.upto messageFitsSpec)) messageFitsUptoCard

/-- THE SECOND FORM's CARD OF 'derricklaw06.MessageReply'. -/
def messageReplyUptoCard : Claim7 := { stood := { row := messageReplyUptoRow, standIns := [], harness := (true, "6b29cfdc5deb88dd17f68453570bee02a8c03fb8a4c30f6d0e55ee171f8613ea"), looks := false }, kinds := [], alts := [], laidByText := true, laidKinds := [.data], laidTests := true, laidLooks := .later }
def MessageReplyUptoCardSaid : Prop := Claim7.holds Tryd.pinned (.plain (OpenSpec.upto messageReplySpec)) messageReplyUptoCard
end Rows
end Go.Proofs.YtnakljbginbenaaDoor
