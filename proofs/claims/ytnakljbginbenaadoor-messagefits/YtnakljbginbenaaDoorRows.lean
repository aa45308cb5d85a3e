/-
  NARROWER THAN 'FOR EVERY INPUT', by the rows' own cells (each row's printed sentence says how): MessageBack: laid · MessageVery: laid · MessageFits: laid · MessageReply: laid.
  DERIVED. THE GIVEN ROWS OF THIS SEAT. 4 by the template 'for every input the law returns true; each argument reads behind the call as it read before'; 0 by the template 'total and deterministic' (their statements: YtnakljbginbenaaDoorTotals.lean).
  GIVEN WITH THE SEED: the statements are not yours to turn. If you find one false, say at which input.
  Laid BY PROGRAM, IN A SANDBOX (cutbox-rows.mjs): the forced cells as the released guide's own fill.sh prints them over the translation 9972eda7b32d7259… (all of the seat's roots in one cut). By AI agents, Wed Nov 11 2026. No macro, syntax, notation, axiom, sorry.
-/
import Derived.Test.YtnakljbginbenaaDoorChecked
import GoSem.Claim
import GoSem.ClaimJoined
import GoSem.ClaimMapViews
import Derived.JoinedTies
import Derived.KernelRfl
namespace Go.Proofs.YtnakljbginbenaaDoor
/- THE CELL 'sum', in the pinned program and in every row, IS THE sha256 OF THE DUMP (.gsa) THAT YtnakljbginbenaaDoorProg.lean LOADS. Nothing in Lean hashes anything: it is a label: what it is worth is what the hold of that sum in a sandbox is worth. -/
noncomputable def Tryd.pinned : Pinned := { name := "ytnakljbginbenaadoor", sum := "9972eda7b32d7259dfda74c39558e58db234162beb996da6804e965c18bbc104", checked := Tryd.checked }
namespace Rows
def none {H : Type} : Left H := { results := [], args := [] }

/- WHAT THE LISTED PACKAGE-LEVEL VARIABLES READ AS WHEN THE CALL BEGINS. Each datum BY PROGRAM (the guide's laid-datum.mjs) off the statement by which the dump's own 'gosem.cut.vars' lays the variable. In a bare row this is a premise. The card (YtnakljbginbenaaDoorCards.lean) ties it to the program's text. -/
def laid_derrick_rdata_layouts {H : Type} : DataW H := .agg [.agg [.lit (.int .u16 1), .agg [.lit (.int .i64 4), .lit (.int .i64 0), .lit (.int .i64 0)]], .agg [.lit (.int .u16 2), .agg [.lit (.int .i64 (-1)), .lit (.int .i64 0), .lit (.int .i64 0)]], .agg [.lit (.int .u16 5), .agg [.lit (.int .i64 (-1)), .lit (.int .i64 0), .lit (.int .i64 0)]], .agg [.lit (.int .u16 6), .agg [.lit (.int .i64 (-1)), .lit (.int .i64 (-1)), .lit (.int .i64 20)]], .agg [.lit (.int .u16 12), .agg [.lit (.int .i64 (-1)), .lit (.int .i64 0), .lit (.int .i64 0)]], .agg [.lit (.int .u16 15), .agg [.lit (.int .i64 2), .lit (.int .i64 (-1)), .lit (.int .i64 0)]], .agg [.lit (.int .u16 16), .agg [.lit (.int .i64 (-2)), .lit (.int .i64 0), .lit (.int .i64 0)]], .agg [.lit (.int .u16 28), .agg [.lit (.int .i64 16), .lit (.int .i64 0), .lit (.int .i64 0)]]]

/-- 'derricklaw06.MessageBack': WHATEVER THE INPUT: true; the input reads as it did. -/
def messageBackSpec : ChangeSpec := { name := "messageBack", fn := fun _ => fun
  | [d1, d2] => { results := [.lit (.bool true)], args := [d1, d2] }
  | _ => none }
def messageBackRow : OpenClaim := { program := "ytnakljbginbenaadoor", sum := "9972eda7b32d7259dfda74c39558e58db234162beb996da6804e965c18bbc104", func := "derrick/derricklaw06.MessageBack", spec := "messageBack", inPlace := ["internal/abi.NoEscape"], unfollowed := true, recurses := true, named := ["derrick/rdata.layouts"], apart := false, laid := [("derrick/rdata.layouts", laid_derrick_rdata_layouts)] }
def MessageBackSaid : Prop := messageBackRow.holds Tryd.pinned (OpenSpec.ofChange messageBackSpec)

/-- ITS FALSE NEIGHBOUR: 'it returns false'. Refute it at one input. -/
def messageBackWrong : ChangeSpec := { name := "messageBack", fn := fun _ => fun
  | [d1, d2] => { results := [.lit (.bool false)], args := [d1, d2] }
  | _ => none }
def MessageBackWrongFalsely : Prop := messageBackRow.holds Tryd.pinned (OpenSpec.ofChange messageBackWrong)

/-- 'derricklaw06.MessageVery': WHATEVER THE INPUT: true; the input reads as it did. -/
def messageVerySpec : ChangeSpec := { name := "messageVery", fn := fun _ => fun
  | [d] => { results := [.lit (.bool true)], args := [d] }
  | _ => none }
def messageVeryRow : OpenClaim := { program := "ytnakljbginbenaadoor", sum := "9972eda7b32d7259dfda74c39558e58db234162beb996da6804e965c18bbc104", func := "derrick/derricklaw06.MessageVery", spec := "messageVery", inPlace := ["internal/abi.NoEscape"], unfollowed := true, recurses := true, named := ["derrick/rdata.layouts"], apart := false, laid := [("derrick/rdata.layouts", laid_derrick_rdata_layouts)] }
def MessageVerySaid : Prop := messageVeryRow.holds Tryd.pinned (OpenSpec.ofChange messageVerySpec)

/-- ITS FALSE NEIGHBOUR: 'it returns false'. Refute it at one input. -/
def messageVeryWrong : ChangeSpec := { name := "messageVery", fn := fun _ => fun
  | [d] => { results := [.lit (.bool false)], args := [d] }
  | _ => none }
def MessageVeryWrongFalsely : Prop := messageVeryRow.holds Tryd.pinned (OpenSpec.ofChange messageVeryWrong)

/-- 'derricklaw06.MessageFits': WHATEVER THE INPUT: true; the input reads as it did. -/
def messageFitsSpec : ChangeSpec := { name := "messageFits", fn := fun _ => fun
  | [d1, d2] => { results := [.lit (.bool true)], args := [d1, d2] }
  | _ => none }
def messageFitsRow : OpenClaim := { program := "ytnakljbginbenaadoor", sum := "9972eda7b32d7259dfda74c39558e58db234162beb996da6804e965c18bbc104", func := "derrick/derricklaw06.MessageFits", spec := "messageFits", inPlace := ["internal/abi.NoEscape"], unfollowed := true, recurses := true, named := ["derrick/rdata.layouts"], apart := false, laid := [("derrick/rdata.layouts", laid_derrick_rdata_layouts)] }
def MessageFitsSaid : Prop := messageFitsRow.holds Tryd.pinned (OpenSpec.ofChange messageFitsSpec)

/-- ITS FALSE NEIGHBOUR: 'it returns false'. Refute it at one input. -/
def messageFitsWrong : ChangeSpec := { name := "messageFits", fn := fun _ => fun
  | [d1, d2] => { results := [.lit (.bool false)], args := [d1, d2] }
  | _ => none }
def MessageFitsWrongFalsely : Prop := messageFitsRow.holds Tryd.pinned (OpenSpec.ofChange messageFitsWrong)

/-- 'derricklaw06.MessageReply': WHATEVER THE INPUT: true; the input reads as it did. -/
def messageReplySpec : ChangeSpec := { name := "messageReply", fn := fun _ => fun
  | [d1, d2] => { results := [.lit (.bool true)], args := [d1, d2] }
  | _ => none }
def messageReplyRow : OpenClaim := { program := "ytnakljbginbenaadoor", sum := "9972eda7b32d7259dfda74c39558e58db234162beb996da6804e965c18bbc104", func := "derrick/derricklaw06.MessageReply", spec := "messageReply", inPlace := ["internal/abi.NoEscape"], unfollowed := true, recurses := true, named := ["derrick/rdata.layouts"], apart := false, laid := [("derrick/rdata.layouts", laid_derrick_rdata_layouts)] }
def MessageReplySaid : Prop := messageReplyRow.holds Tryd.pinned (OpenSpec.ofChange messageReplySpec)

/-- ITS FALSE NEIGHBOUR: 'it returns false'. Refute it at one input. -/
def messageReplyWrong : ChangeSpec := { name := "messageReply", fn := fun _ => fun
  | [d1, d2] => { results := [.lit (.bool false)], args := [d1, d2] }
  | _ => none }
def MessageReplyWrongFalsely : Prop := messageReplyRow.holds Tryd.pinned (OpenSpec.ofChange messageReplyWrong)

/- THE SECOND FORM. 'bulk': how many values and letters a reading holds, each counted each time it is reached (what is shared counts as often as it is met; a slice's spare places count too). A statement '..UptoSaid' is the law's where the arguments, and the package variables that the reading takes, are together of bulk at most 1048576: NARROWER than '..Said'. Prove '..Said' where nothing that the law and all that it calls make is longer than what came in: it says more and counts as full. Else prove '..UptoSaid'. A law counts once. -/
mutual
def uptoBulk {H : Type} : DataW H → Nat
  | .lit (.string bytes) => bytes.length + 1
  | .lit _ => 1
  | .nil => 1
  | .ptr d => uptoBulk d + 1
  | .slice elems spare => uptoBulkAll elems + uptoBulkAll spare + 1
  | .agg parts => uptoBulkAll parts + 1
  | .iface _ d => uptoBulk d + 1
  | .map entries => uptoBulkEntries entries + 1
  | .held _ => 1
def uptoBulkAll {H : Type} : List (DataW H) → Nat
  | [] => 0
  | d :: r => uptoBulk d + uptoBulkAll r
def uptoBulkEntries {H : Type} : List (Lit × DataW H) → Nat
  | [] => 0
  | x :: r => uptoBulkEntry x + uptoBulkEntries r
def uptoBulkEntry {H : Type} : Lit × DataW H → Nat
  | (.string bytes, d) => bytes.length + uptoBulk d + 1
  | (_, d) => uptoBulk d + 1
 end
def uptoSmall : (H : Type) → List (DataW H) → Bool := fun _ ds => decide (uptoBulkAll ds ≤ 1048576)
def OpenSpec.upto (s : _root_.Go.ChangeSpec) : _root_.Go.OpenSpec := { _root_.Go.OpenSpec.ofChange s with cond := some uptoSmall }

/-- 'derricklaw06.MessageBack', WHERE WHAT IT READS IS OF BULK AT MOST 1048576: true; the input reads as it did. -/
def messageBackUptoRow : OpenClaim := { program := "ytnakljbginbenaadoor", sum := "9972eda7b32d7259dfda74c39558e58db234162beb996da6804e965c18bbc104", func := "derrick/derricklaw06.MessageBack", spec := "messageBack", inPlace := ["internal/abi.NoEscape"], unfollowed := true, recurses := true, named := ["derrick/rdata.layouts"], apart := false, laid := [("derrick/rdata.layouts", laid_derrick_rdata_layouts)], narrowed := true }
def MessageBackUptoSaid : Prop := messageBackUptoRow.holds Tryd.pinned (OpenSpec.upto messageBackSpec)

/-- 'derricklaw06.MessageVery', WHERE WHAT IT READS IS OF BULK AT MOST 1048576: true; the input reads as it did. -/
def messageVeryUptoRow : OpenClaim := { program := "ytnakljbginbenaadoor", sum := "9972eda7b32d7259dfda74c39558e58db234162beb996da6804e965c18bbc104", func := "derrick/derricklaw06.MessageVery", spec := "messageVery", inPlace := ["internal/abi.NoEscape"], unfollowed := true, recurses := true, named := ["derrick/rdata.layouts"], apart := false, laid := [("derrick/rdata.layouts", laid_derrick_rdata_layouts)], narrowed := true }
def MessageVeryUptoSaid : Prop := messageVeryUptoRow.holds Tryd.pinned (OpenSpec.upto messageVerySpec)

/-- 'derricklaw06.MessageFits', WHERE WHAT IT READS IS OF BULK AT MOST 1048576: true; the input reads as it did. -/
def messageFitsUptoRow : OpenClaim := { program := "ytnakljbginbenaadoor", sum := "9972eda7b32d7259dfda74c39558e58db234162beb996da6804e965c18bbc104", func := "derrick/derricklaw06.MessageFits", spec := "messageFits", inPlace := ["internal/abi.NoEscape"], unfollowed := true, recurses := true, named := ["derrick/rdata.layouts"], apart := false, laid := [("derrick/rdata.layouts", laid_derrick_rdata_layouts)], narrowed := true }
def MessageFitsUptoSaid : Prop := messageFitsUptoRow.holds Tryd.pinned (OpenSpec.upto messageFitsSpec)

/-- 'derricklaw06.MessageReply', WHERE WHAT IT READS IS OF BULK AT MOST 1048576: true; the input reads as it did. -/
def messageReplyUptoRow : OpenClaim := { program := "ytnakljbginbenaadoor", sum := "9972eda7b32d7259dfda74c39558e58db234162beb996da6804e965c18bbc104", func := "derrick/derricklaw06.MessageReply", spec := "messageReply", inPlace := ["internal/abi.NoEscape"], unfollowed := true, recurses := true, named := ["derrick/rdata.layouts"], apart := false, laid := [("derrick/rdata.layouts", laid_derrick_rdata_layouts)], narrowed := true }
def MessageReplyUptoSaid : Prop := messageReplyUptoRow.holds Tryd.pinned (OpenSpec.upto messageReplySpec)

end Rows
end Go.Proofs.YtnakljbginbenaaDoor
