/-
  DERIVED. GIVEN WITH THE SEED: THE CARDS: each row of YtccmppnindkgfaaDoorRows.lean that lists a variable, with what it lists TIED to the program's text (the seventh form; the later family's looks); each row that meets fmt, with fmt's text TOLD by the authors' own Lean function (tested against real Go, not proved from fmt's source: count such statements apart). THE CARD IS WHAT COUNTS. Prove the row's statement (the work); the ties are given (YtccmppnindkgfaaDoorTie.lean); close each card by the builder's one call (the guide's Derived/Test/ToyasCard.lean, 'card_holds'). Laid BY PROGRAM, IN A SANDBOX (cutbox-door.mjs). By AI agents, Wed Nov 11 2026. No macro, syntax, notation, axiom, sorry.
-/
import Derived.Test.YtccmppnindkgfaaDoorRows
import GoSem.ClaimSeven
namespace Go.Proofs.YtccmppnindkgfaaDoor
namespace Rows

/-- THE TIED CARD OF 'derricklaw04.RdataTells'. -/
def rdataTellsCard : Claim7 := { stood := { row := rdataTellsRow, standIns := [], harness := (true, "4b091b2dd343faab881cd9c3b579e150dba41b0446a4ff302710ee5c0fe505c6"), looks := false }, kinds := [], alts := [], laidByText := true, laidKinds := [.data], laidTests := true, laidLooks := .later }
def RdataTellsCardSaid : Prop := Claim7.holds Tryd.pinned (.plain (OpenSpec.ofChange rdataTellsSpec)) rdataTellsCard

/-- THE TIED CARD OF 'derricklaw04.RdataPuts'. -/
def rdataPutsCard : Claim7 := { stood := { row := rdataPutsRow, standIns := [], harness := (true, "4b091b2dd343faab881cd9c3b579e150dba41b0446a4ff302710ee5c0fe505c6"), looks := false }, kinds := [], alts := [], laidByText := true, laidKinds := [.data], laidTests := true, laidLooks := .later }
def RdataPutsCardSaid : Prop := Claim7.holds Tryd.pinned (.plain (OpenSpec.ofChange rdataPutsSpec)) rdataPutsCard

/-- THE TIED CARD OF 'derricklaw04.RdataBack'. -/
def rdataBackCard : Claim7 := { stood := { row := rdataBackRow, standIns := [], harness := (true, "4b091b2dd343faab881cd9c3b579e150dba41b0446a4ff302710ee5c0fe505c6"), looks := false }, kinds := [], alts := [], laidByText := true, laidKinds := [.data], laidTests := true, laidLooks := .later }
def RdataBackCardSaid : Prop := Claim7.holds Tryd.pinned (.plain (OpenSpec.ofChange rdataBackSpec)) rdataBackCard

/-- THE TIED CARD OF 'derricklaw04.RdataVery'. -/
def rdataVeryCard : Claim7 := { stood := { row := rdataVeryRow, standIns := [], harness := (true, "4b091b2dd343faab881cd9c3b579e150dba41b0446a4ff302710ee5c0fe505c6"), looks := false }, kinds := [], alts := [], laidByText := true, laidKinds := [.data], laidTests := true, laidLooks := .later }
def RdataVeryCardSaid : Prop := Claim7.holds Tryd.pinned (.plain (OpenSpec.ofChange rdataVerySpec)) rdataVeryCard

/-- THE TIED CARD OF 'derricklaw04.RdataOther'. -/
def rdataOtherCard : Claim7 := { stood := { row := rdataOtherRow, standIns := [], harness := (true, "4b091b2dd343faab881cd9c3b579e150dba41b0446a4ff302710ee5c0fe505c6"), looks := false }, kinds := [], alts := [], laidByText := true, laidKinds := [.data], laidTests := true, laidLooks := .later }
def RdataOtherCardSaid : Prop := Claim7.holds Tryd.pinned (.plain (OpenSpec.ofChange rdataOtherSpec)) rdataOtherCard

/-- THE SECOND FORM's CARD OF 'derricklaw04.RdataTells'. -/
def rdataTellsUptoCard : Claim7 := { stood := { row := rdataTellsUptoRow, standIns := [], harness := (true, "4b091b2dd343faab881cd9c3b579e150dba41b0446a4ff302710ee5c0fe505c6"), looks := false }, kinds := [], alts := [], laidByText := true, laidKinds := [.data], laidTests := true, laidLooks := .later }
def RdataTellsUptoCardSaid : Prop := Claim7.holds Tryd.pinned (.plain (OpenSpec.upto rdataTellsSpec)) rdataTellsUptoCard

/-- THE SECOND FORM's CARD OF 'derricklaw04.RdataPuts'. -/
def rdataPutsUptoCard : Claim7 := { stood := { row := rdataPutsUptoRow, standIns := [], harness := (true, "4b091b2dd343faab881cd9c3b579e150dba41b0446a4ff302710ee5c0fe505c6"), looks := false }, kinds := [], alts := [], laidByText := true, laidKinds := [.data], laidTests := true, laidLooks := .later }
def RdataPutsUptoCardSaid : Prop := Claim7.holds Tryd.pinned (.plain (OpenSpec.upto rdataPutsSpec)) rdataPutsUptoCard

/-- THE SECOND FORM's CARD OF 'derricklaw04.RdataBack'. -/
def rdataBackUptoCard : Claim7 := { stood := { row := rdataBackUptoRow, standIns := [], harness := (true, "4b091b2dd343faab881cd9c3b579e150dba41b0446a4ff302710ee5c0fe505c6"), looks := false }, kinds := [], alts := [], laidByText := true, laidKinds := [.data], laidTests := true, laidLooks := .later }
def RdataBackUptoCardSaid : Prop := Claim7.holds Tryd.pinned (.plain (OpenSpec.upto rdataBackSpec)) rdataBackUptoCard

/-- THE SECOND FORM's CARD OF 'derricklaw04.RdataVery'. -/
def rdataVeryUptoCard : Claim7 := { stood := { row := rdataVeryUptoRow, standIns := [], harness := (true, "4b091b2dd343faab881cd9c3b579e150dba41b0446a4ff302710ee5c0fe505c6"), looks := false }, kinds := [], alts := [], laidByText := true, laidKinds := [.data], laidTests := true, laidLooks := .later }
def RdataVeryUptoCardSaid : Prop := Claim7.holds Tryd.pinned (.plain (OpenSpec.upto rdataVerySpec)) rdataVeryUptoCard

/-- THE SECOND FORM's CARD OF 'derricklaw04.RdataOther'. -/
def rdataOtherUptoCard : Claim7 := { stood := { row := rdataOtherUptoRow, standIns := [], harness := (true, "4b091b2dd343faab881cd9c3b579e150dba41b0446a4ff302710ee5c0fe505c6"), looks := false }, kinds := [], alts := [], laidByText := true, laidKinds := [.data], laidTests := true, laidLooks := .later }
def RdataOtherUptoCardSaid : Prop := Claim7.holds Tryd.pinned (.plain (OpenSpec.upto rdataOtherSpec)) rdataOtherUptoCard
end Rows
end Go.Proofs.YtccmppnindkgfaaDoor
