/-
  DERIVED. GIVEN WITH THE SEED: THE CARDS: each row of YtlphbeaaeeohjaaDoorRows.lean that lists a variable, with what it lists TIED to the program's text (the seventh form; the later family's looks); each row that meets fmt, with fmt's text TOLD by the authors' own Lean function (tested against real Go, not proved from fmt's source: count such statements apart). THE CARD IS WHAT COUNTS. Prove the row's statement (the work); the ties are given (YtlphbeaaeeohjaaDoorTie.lean); close each card by the builder's one call (the guide's Derived/Test/ToyasCard.lean, 'card_holds'). Laid BY PROGRAM, IN A SANDBOX (cutbox-door.mjs). By AI agents, Wed Nov 11 2026. No macro, syntax, notation, axiom, sorry.
-/
import Derived.Test.YtlphbeaaeeohjaaDoorRows
import GoSem.ClaimSeven
namespace Go.Proofs.YtlphbeaaeeohjaaDoor
namespace Rows

/-- THE TIED CARD OF 'derricklaw05.RecordTells'. -/
def recordTellsCard : Claim7 := { stood := { row := recordTellsRow, standIns := [], harness := (true, "c2440da5d73681652f808c07acf0b56b326103c876001f06314999f4b9fc9aac"), looks := false }, kinds := [], alts := [], laidByText := true, laidKinds := [.data], laidTests := true, laidLooks := .later }
def RecordTellsCardSaid : Prop := Claim7.holds Tryd.pinned (.plain (OpenSpec.ofChange recordTellsSpec)) recordTellsCard

/-- THE TIED CARD OF 'derricklaw05.RecordPuts'. -/
def recordPutsCard : Claim7 := { stood := { row := recordPutsRow, standIns := [], harness := (true, "c2440da5d73681652f808c07acf0b56b326103c876001f06314999f4b9fc9aac"), looks := false }, kinds := [], alts := [], laidByText := true, laidKinds := [.data], laidTests := true, laidLooks := .later }
def RecordPutsCardSaid : Prop := Claim7.holds Tryd.pinned (.plain (OpenSpec.ofChange recordPutsSpec)) recordPutsCard

/-- THE TIED CARD OF 'derricklaw05.RecordBack'. -/
def recordBackCard : Claim7 := { stood := { row := recordBackRow, standIns := [], harness := (true, "c2440da5d73681652f808c07acf0b56b326103c876001f06314999f4b9fc9aac"), looks := false }, kinds := [], alts := [], laidByText := true, laidKinds := [.data], laidTests := true, laidLooks := .later }
def RecordBackCardSaid : Prop := Claim7.holds Tryd.pinned (.plain (OpenSpec.ofChange recordBackSpec)) recordBackCard

/-- THE TIED CARD OF 'derricklaw05.RecordVery'. -/
def recordVeryCard : Claim7 := { stood := { row := recordVeryRow, standIns := [], harness := (true, "c2440da5d73681652f808c07acf0b56b326103c876001f06314999f4b9fc9aac"), looks := false }, kinds := [], alts := [], laidByText := true, laidKinds := [.data], laidTests := true, laidLooks := .later }
def RecordVeryCardSaid : Prop := Claim7.holds Tryd.pinned (.plain (OpenSpec.ofChange recordVerySpec)) recordVeryCard

/-- THE TIED CARD OF 'derricklaw05.RecordSame'. -/
def recordSameCard : Claim7 := { stood := { row := recordSameRow, standIns := [], harness := (true, "c2440da5d73681652f808c07acf0b56b326103c876001f06314999f4b9fc9aac"), looks := false }, kinds := [], alts := [], laidByText := true, laidKinds := [.data], laidTests := true, laidLooks := .later }
def RecordSameCardSaid : Prop := Claim7.holds Tryd.pinned (.plain (OpenSpec.ofChange recordSameSpec)) recordSameCard

/-- THE SECOND FORM's CARD OF 'derricklaw05.RecordTells'. -/
def recordTellsUptoCard : Claim7 := { stood := { row := recordTellsUptoRow, standIns := [], harness := (true, "c2440da5d73681652f808c07acf0b56b326103c876001f06314999f4b9fc9aac"), looks := false }, kinds := [], alts := [], laidByText := true, laidKinds := [.data], laidTests := true, laidLooks := .later }
def RecordTellsUptoCardSaid : Prop := Claim7.holds Tryd.pinned (.plain (OpenSpec.upto recordTellsSpec)) recordTellsUptoCard

/-- THE SECOND FORM's CARD OF 'derricklaw05.RecordPuts'. -/
def recordPutsUptoCard : Claim7 := { stood := { row := recordPutsUptoRow, standIns := [], harness := (true, "c2440da5d73681652f808c07acf0b56b326103c876001f06314999f4b9fc9aac"), looks := false }, kinds := [], alts := [], laidByText := true, laidKinds := [.data], laidTests := true, laidLooks := .later }
def RecordPutsUptoCardSaid : Prop := Claim7.holds Tryd.pinned (.plain (OpenSpec.upto recordPutsSpec)) recordPutsUptoCard

/-- THE SECOND FORM's CARD OF 'derricklaw05.RecordBack'. -/
def recordBackUptoCard : Claim7 := { stood := { row := recordBackUptoRow, standIns := [], harness := (true, "c2440da5d73681652f808c07acf0b56b326103c876001f06314999f4b9fc9aac"), looks := false }, kinds := [], alts := [], laidByText := true, laidKinds := [.data], laidTests := true, laidLooks := .later }
def RecordBackUptoCardSaid : Prop := Claim7.holds Tryd.pinned (.plain (OpenSpec.upto recordBackSpec)) recordBackUptoCard

/-- THE SECOND FORM's CARD OF 'derricklaw05.RecordVery'. -/
def recordVeryUptoCard : Claim7 := { stood := { row := recordVeryUptoRow, standIns := [], harness := (true, "c2440da5d73681652f808c07acf0b56b326103c876001f06314999f4b9fc9aac"), looks := false }, kinds := [], alts := [], laidByText := true, laidKinds := [.data], laidTests := true, laidLooks := .later }
def RecordVeryUptoCardSaid : Prop := Claim7.holds Tryd.pinned (.plain (OpenSpec.upto recordVerySpec)) recordVeryUptoCard

/-- THE SECOND FORM's CARD OF 'derricklaw05.RecordSame'. -/
def recordSameUptoCard : Claim7 := { stood := { row := recordSameUptoRow, standIns := [], harness := (true, "c2440da5d73681652f808c07acf0b56b326103c876001f06314999f4b9fc9aac"), looks := false }, kinds := [], alts := [], laidByText := true, laidKinds := [.data], laidTests := true, laidLooks := .later }
def RecordSameUptoCardSaid : Prop := Claim7.holds Tryd.pinned (.plain (OpenSpec.upto recordSameSpec)) recordSameUptoCard
end Rows
end Go.Proofs.YtlphbeaaeeohjaaDoor
