/-
  DERIVED. GIVEN WITH THE SEED: THE CARDS: each row of YtbcgkjfhfegeaaaDoorRows.lean that lists a variable, with what it lists TIED to the program's text (the seventh form; the later family's looks); each row that meets fmt, with fmt's text TOLD by the authors' own Lean function (tested against real Go, not proved from fmt's source: count such statements apart). THE CARD IS WHAT COUNTS. Prove the row's statement (the work); the ties are given (YtbcgkjfhfegeaaaDoorTie.lean); close each card by the builder's one call (the guide's Derived/Test/ToyasCard.lean, 'card_holds'). Laid BY PROGRAM, IN A SANDBOX (cutbox-door.mjs). By AI agents, Wed Nov 11 2026. No macro, syntax, notation, axiom, sorry.
-/
import Derived.Test.YtbcgkjfhfegeaaaDoorRows
import GoSem.ClaimSeven
namespace Go.Proofs.YtbcgkjfhfegeaaaDoor
namespace Rows

/-- THE TIED CARD OF 'derricklaw08.RankTells'. -/
def rankTellsCard : Claim7 := { stood := { row := rankTellsRow, standIns := [], harness := (true, "c1d3ad3ef3f813c51a863450b270a7fa96f390cd8f56bb28d0cce7f9468e6fb4"), looks := false }, kinds := [], alts := [], laidByText := true, laidKinds := [.data], laidTests := true, laidLooks := .later }
def RankTellsCardSaid : Prop := Claim7.holds Tryd.pinned (.plain (OpenSpec.ofChange rankTellsSpec)) rankTellsCard

/-- THE TIED CARD OF 'derricklaw08.RankOrder'. -/
def rankOrderCard : Claim7 := { stood := { row := rankOrderRow, standIns := [], harness := (true, "c1d3ad3ef3f813c51a863450b270a7fa96f390cd8f56bb28d0cce7f9468e6fb4"), looks := false }, kinds := [], alts := [], laidByText := true, laidKinds := [.data], laidTests := true, laidLooks := .later }
def RankOrderCardSaid : Prop := Claim7.holds Tryd.pinned (.plain (OpenSpec.ofChange rankOrderSpec)) rankOrderCard

/-- THE TIED CARD OF 'derricklaw08.RankNever'. -/
def rankNeverCard : Claim7 := { stood := { row := rankNeverRow, standIns := [], harness := (true, "c1d3ad3ef3f813c51a863450b270a7fa96f390cd8f56bb28d0cce7f9468e6fb4"), looks := false }, kinds := [], alts := [], laidByText := true, laidKinds := [.data], laidTests := true, laidLooks := .later }
def RankNeverCardSaid : Prop := Claim7.holds Tryd.pinned (.plain (OpenSpec.ofChange rankNeverSpec)) rankNeverCard

/-- THE TIED CARD OF 'derricklaw08.RankChain'. -/
def rankChainCard : Claim7 := { stood := { row := rankChainRow, standIns := [], harness := (true, "c1d3ad3ef3f813c51a863450b270a7fa96f390cd8f56bb28d0cce7f9468e6fb4"), looks := false }, kinds := [], alts := [], laidByText := true, laidKinds := [.data], laidTests := true, laidLooks := .later }
def RankChainCardSaid : Prop := Claim7.holds Tryd.pinned (.plain (OpenSpec.ofChange rankChainSpec)) rankChainCard

/-- THE SECOND FORM's CARD OF 'derricklaw08.RankTells'. -/
def rankTellsUptoCard : Claim7 := { stood := { row := rankTellsUptoRow, standIns := [], harness := (true, "c1d3ad3ef3f813c51a863450b270a7fa96f390cd8f56bb28d0cce7f9468e6fb4"), looks := false }, kinds := [], alts := [], laidByText := true, laidKinds := [.data], laidTests := true, laidLooks := .later }
def RankTellsUptoCardSaid : Prop := Claim7.holds Tryd.pinned (.plain (OpenSpec.upto rankTellsSpec)) rankTellsUptoCard

/-- THE SECOND FORM's CARD OF 'derricklaw08.RankOrder'. -/
def rankOrderUptoCard : Claim7 := { stood := { row := rankOrderUptoRow, standIns := [], harness := (true, "c1d3ad3ef3f813c51a863450b270a7fa96f390cd8f56bb28d0cce7f9468e6fb4"), looks := false }, kinds := [], alts := [], laidByText := true, laidKinds := [.data], laidTests := true, laidLooks := .later }
def RankOrderUptoCardSaid : Prop := Claim7.holds Tryd.pinned (.plain (OpenSpec.upto rankOrderSpec)) rankOrderUptoCard

/-- THE SECOND FORM's CARD OF 'derricklaw08.RankNever'. -/
def rankNeverUptoCard : Claim7 := { stood := { row := rankNeverUptoRow, standIns := [], harness := (true, "c1d3ad3ef3f813c51a863450b270a7fa96f390cd8f56bb28d0cce7f9468e6fb4"), looks := false }, kinds := [], alts := [], laidByText := true, laidKinds := [.data], laidTests := true, laidLooks := .later }
def RankNeverUptoCardSaid : Prop := Claim7.holds Tryd.pinned (.plain (OpenSpec.upto rankNeverSpec)) rankNeverUptoCard

/-- THE SECOND FORM's CARD OF 'derricklaw08.RankChain'. -/
def rankChainUptoCard : Claim7 := { stood := { row := rankChainUptoRow, standIns := [], harness := (true, "c1d3ad3ef3f813c51a863450b270a7fa96f390cd8f56bb28d0cce7f9468e6fb4"), looks := false }, kinds := [], alts := [], laidByText := true, laidKinds := [.data], laidTests := true, laidLooks := .later }
def RankChainUptoCardSaid : Prop := Claim7.holds Tryd.pinned (.plain (OpenSpec.upto rankChainSpec)) rankChainUptoCard
end Rows
end Go.Proofs.YtbcgkjfhfegeaaaDoor
