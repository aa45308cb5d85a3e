/-
  NARROWER THAN 'FOR EVERY INPUT', by the rows' own cells (each row's printed sentence says how): MessageTells: laid · MessageTakes: laid · MessageCuts: laid.
  DERIVED. THE GIVEN ROWS OF THIS SEAT. 3 by the template 'for every input the law returns true; each argument reads behind the call as it read before'; 0 by the template 'total and deterministic' (their statements: YtnakljbginbenaaGreatDoorTotals.lean).
  GIVEN WITH THE SEED: the statements are not yours to turn. If you find one false, say at which input.
  Laid BY PROGRAM, IN A SANDBOX (cutbox-rows.mjs): the forced cells as the released guide's own fill.sh prints them over the translation 841cf6f9d3bbca10… (all of the seat's roots in one cut). By AI agents, Wed Nov 11 2026. No macro, syntax, notation, axiom, sorry.
-/
import Derived.Test.YtnakljbginbenaaGreatDoorChecked
import GoSem.Claim
import GoSem.ClaimJoined
import GoSem.ClaimMapViews
import Derived.JoinedTies
import Derived.KernelRfl
namespace Go.Proofs.YtnakljbginbenaaGreatDoor
/- THE CELL 'sum', in the pinned program and in every row, IS THE sha256 OF THE DUMP (.gsa) THAT YtnakljbginbenaaGreatDoorProg.lean LOADS. Nothing in Lean hashes anything: it is a label: what it is worth is what the hold of that sum in a sandbox is worth. -/
noncomputable def Tryz.pinned : Pinned := { name := "ytnakljbginbenaagreatdoor", sum := "841cf6f9d3bbca105a5e3609f5f69767223ded3181706b72243b66bf2e7ff8b4", checked := Tryz.checked }
namespace Rows
def none {H : Type} : Left H := { results := [], args := [] }

/- WHAT THE LISTED PACKAGE-LEVEL VARIABLES READ AS WHEN THE CALL BEGINS. Each datum BY PROGRAM (the guide's laid-datum.mjs) off the statement by which the dump's own 'gosem.cut.vars' lays the variable. In a bare row this is a premise. The card (YtnakljbginbenaaGreatDoorCards.lean) ties it to the program's text. -/
def laid_derrick_rdata_layouts {H : Type} : DataW H := .agg [.agg [.lit (.int .u16 1), .agg [.lit (.int .i64 4), .lit (.int .i64 0), .lit (.int .i64 0)]], .agg [.lit (.int .u16 2), .agg [.lit (.int .i64 (-1)), .lit (.int .i64 0), .lit (.int .i64 0)]], .agg [.lit (.int .u16 5), .agg [.lit (.int .i64 (-1)), .lit (.int .i64 0), .lit (.int .i64 0)]], .agg [.lit (.int .u16 6), .agg [.lit (.int .i64 (-1)), .lit (.int .i64 (-1)), .lit (.int .i64 20)]], .agg [.lit (.int .u16 12), .agg [.lit (.int .i64 (-1)), .lit (.int .i64 0), .lit (.int .i64 0)]], .agg [.lit (.int .u16 15), .agg [.lit (.int .i64 2), .lit (.int .i64 (-1)), .lit (.int .i64 0)]], .agg [.lit (.int .u16 16), .agg [.lit (.int .i64 (-2)), .lit (.int .i64 0), .lit (.int .i64 0)]], .agg [.lit (.int .u16 28), .agg [.lit (.int .i64 16), .lit (.int .i64 0), .lit (.int .i64 0)]]]

/-- 'derricklaw06.MessageTells': WHATEVER THE INPUT: true; the input reads as it did. -/
def messageTellsSpec : ChangeSpec := { name := "messageTells", fn := fun _ => fun
  | [d1, d2] => { results := [.lit (.bool true)], args := [d1, d2] }
  | _ => none }
def messageTellsRow : OpenClaim := { program := "ytnakljbginbenaagreatdoor", sum := "841cf6f9d3bbca105a5e3609f5f69767223ded3181706b72243b66bf2e7ff8b4", func := "derrick/derricklaw06.MessageTells", spec := "messageTells", inPlace := ["internal/abi.NoEscape"], unfollowed := true, recurses := true, named := ["derrick/rdata.layouts"], apart := false, laid := [("derrick/rdata.layouts", laid_derrick_rdata_layouts)] }
def MessageTellsSaid : Prop := messageTellsRow.holds Tryz.pinned (OpenSpec.ofChange messageTellsSpec)

/-- ITS FALSE NEIGHBOUR: 'it returns false'. Refute it at one input. -/
def messageTellsWrong : ChangeSpec := { name := "messageTells", fn := fun _ => fun
  | [d1, d2] => { results := [.lit (.bool false)], args := [d1, d2] }
  | _ => none }
def MessageTellsWrongFalsely : Prop := messageTellsRow.holds Tryz.pinned (OpenSpec.ofChange messageTellsWrong)

/-- 'derricklaw06.MessageTakes': WHATEVER THE INPUT: true; the input reads as it did. -/
def messageTakesSpec : ChangeSpec := { name := "messageTakes", fn := fun _ => fun
  | [d] => { results := [.lit (.bool true)], args := [d] }
  | _ => none }
def messageTakesRow : OpenClaim := { program := "ytnakljbginbenaagreatdoor", sum := "841cf6f9d3bbca105a5e3609f5f69767223ded3181706b72243b66bf2e7ff8b4", func := "derrick/derricklaw06.MessageTakes", spec := "messageTakes", inPlace := ["internal/abi.NoEscape"], unfollowed := true, recurses := true, named := ["derrick/rdata.layouts"], apart := false, laid := [("derrick/rdata.layouts", laid_derrick_rdata_layouts)] }
def MessageTakesSaid : Prop := messageTakesRow.holds Tryz.pinned (OpenSpec.ofChange messageTakesSpec)

/-- ITS FALSE NEIGHBOUR: 'it returns false'. Refute it at one input. -/
def messageTakesWrong : ChangeSpec := { name := "messageTakes", fn := fun _ => fun
  | [d] => { results := [.lit (.bool false)], args := [d] }
  | _ => none }
def MessageTakesWrongFalsely : Prop := messageTakesRow.holds Tryz.pinned (OpenSpec.ofChange messageTakesWrong)

/-- 'derricklaw06.MessageCuts': WHATEVER THE INPUT: true; the input reads as it did. -/
def messageCutsSpec : ChangeSpec := { name := "messageCuts", fn := fun _ => fun
  | [d1, d2] => { results := [.lit (.bool true)], args := [d1, d2] }
  | _ => none }
def messageCutsRow : OpenClaim := { program := "ytnakljbginbenaagreatdoor", sum := "841cf6f9d3bbca105a5e3609f5f69767223ded3181706b72243b66bf2e7ff8b4", func := "derrick/derricklaw06.MessageCuts", spec := "messageCuts", inPlace := ["internal/abi.NoEscape"], unfollowed := true, recurses := true, named := ["derrick/rdata.layouts"], apart := false, laid := [("derrick/rdata.layouts", laid_derrick_rdata_layouts)] }
def MessageCutsSaid : Prop := messageCutsRow.holds Tryz.pinned (OpenSpec.ofChange messageCutsSpec)

/-- ITS FALSE NEIGHBOUR: 'it returns false'. Refute it at one input. -/
def messageCutsWrong : ChangeSpec := { name := "messageCuts", fn := fun _ => fun
  | [d1, d2] => { results := [.lit (.bool false)], args := [d1, d2] }
  | _ => none }
def MessageCutsWrongFalsely : Prop := messageCutsRow.holds Tryz.pinned (OpenSpec.ofChange messageCutsWrong)

/- THE SECOND FORM. 'bulk': how many values and letters a reading holds, each counted each time it is reached (what is shared counts as often as it is met; a slice's spare places count too). A statement '..UptoSaid' is the law's where the arguments, and the package variables that the reading takes, are together of bulk at most 1048576: NARROWER than '..Said'. Prove '..Said' where nothing that the law and all that it calls make is longer than what came in: it says more and counts as full. Else prove '..UptoSaid'. A law counts once. -/
mutual
def uptoBulk {H : Type} : DataW H → Nat
  | .lit (.string bytes) => bytes.length + 1
  | .lit _ => 1
  | .nil => 1
  | .ptr d => uptoBulk d + 1
  | .slice elems spare => uptoBulkAll elems + uptoBulkAll spare + 1
  | .agg parts => uptoBulkAll parts + 1
  | .iface _ d => uptoBulk d + 1
  | .map entries => uptoBulkEntries entries + 1
  | .held _ => 1
def uptoBulkAll {H : Type} : List (DataW H) → Nat
  | [] => 0
  | d :: r => uptoBulk d + uptoBulkAll r
def uptoBulkEntries {H : Type} : List (Lit × DataW H) → Nat
  | [] => 0
  | x :: r => uptoBulkEntry x + uptoBulkEntries r
def uptoBulkEntry {H : Type} : Lit × DataW H → Nat
  | (.string bytes, d) => bytes.length + uptoBulk d + 1
  | (_, d) => uptoBulk d + 1
 end
def uptoSmall : (H : Type) → List (DataW H) → Bool := fun _ ds => decide (uptoBulkAll ds ≤ 1048576)
def OpenSpec.upto (s : _root_.Go.ChangeSpec) : _root_.Go.OpenSpec := { _root_.Go.OpenSpec.ofChange s with cond := some uptoSmall }

/-- 'derricklaw06.MessageTells', WHERE WHAT IT READS IS OF BULK AT MOST 1048576: true; the input reads as it did. -/
def messageTellsUptoRow : OpenClaim := { program := "ytnakljbginbenaagreatdoor", sum := "841cf6f9d3bbca105a5e3609f5f69767223ded3181706b72243b66bf2e7ff8b4", func := "derrick/derricklaw06.MessageTells", spec := "messageTells", inPlace := ["internal/abi.NoEscape"], unfollowed := true, recurses := true, named := ["derrick/rdata.layouts"], apart := false, laid := [("derrick/rdata.layouts", laid_derrick_rdata_layouts)], narrowed := true }
def MessageTellsUptoSaid : Prop := messageTellsUptoRow.holds Tryz.pinned (OpenSpec.upto messageTellsSpec)

/-- 'derricklaw06.MessageTakes', WHERE WHAT IT READS IS OF BULK AT MOST 1048576: true; the input reads as it did. -/
def messageTakesUptoRow : OpenClaim := { program := "ytnakljbginbenaagreatdoor", sum := "841cf6f9d3bbca105a5e3609f5f69767223ded3181706b72243b66bf2e7ff8b4", func := "derrick/derricklaw06.MessageTakes", spec := "messageTakes", inPlace := ["internal/abi.NoEscape"], unfollowed := true, recurses := true, named := ["derrick/rdata.layouts"], apart := false, laid := [("derrick/rdata.layouts", laid_derrick_rdata_layouts)], narrowed := true }
def MessageTakesUptoSaid : Prop := messageTakesUptoRow.holds Tryz.pinned (OpenSpec.upto messageTakesSpec)

/-- 'derricklaw06.MessageCuts', WHERE WHAT IT READS IS OF BULK AT MOST 1048576: true; the input reads as it did. -/
def messageCutsUptoRow : OpenClaim := { program := "ytnakljbginbenaagreatdoor", sum := "841cf6f9d3bbca105a5e3609f5f69767223ded3181706b72243b66bf2e7ff8b4", func := "derrick/derricklaw06.MessageCuts", spec := "messageCuts", inPlace := ["internal/abi.NoEscape"], unfollowed := true, recurses := true, named := ["derrick/rdata.layouts"], apart := false, laid := [("derrick/rdata.layouts", laid_derrick_rdata_layouts)], narrowed := true }
def MessageCutsUptoSaid : Prop := messageCutsUptoRow.holds Tryz.pinned (OpenSpec.upto messageCutsSpec)

end Rows
end Go.Proofs.YtnakljbginbenaaGreatDoor
