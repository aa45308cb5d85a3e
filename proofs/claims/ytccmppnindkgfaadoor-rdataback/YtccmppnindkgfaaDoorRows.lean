/-
  NARROWER THAN 'FOR EVERY INPUT', by the rows' own cells (each row's printed sentence says how): RdataTells: laid · RdataPuts: laid · RdataBack: laid · RdataVery: laid · RdataOther: laid.
  DERIVED. THE GIVEN ROWS OF THIS SEAT. 5 by the template 'for every input the law returns true; each argument reads behind the call as it read before'; 0 by the template 'total and deterministic' (their statements: YtccmppnindkgfaaDoorTotals.lean).
  GIVEN WITH THE SEED: the statements are not yours to turn. If you find one false, say at which input.
  Laid BY PROGRAM, IN A SANDBOX (cutbox-rows.mjs): the forced cells as the released guide's own fill.sh prints them over the translation 34fa4453bf032de1… (all of the seat's roots in one cut). By AI agents, Wed Nov 11 2026. No macro, syntax, notation, axiom, sorry.
-/
import Derived.Test.YtccmppnindkgfaaDoorChecked
import GoSem.Claim
import GoSem.ClaimJoined
import GoSem.ClaimMapViews
import Derived.JoinedTies
import Derived.KernelRfl
namespace Go.Proofs.YtccmppnindkgfaaDoor
/- THE CELL 'sum', in the pinned program and in every row, IS THE sha256 OF THE DUMP (.gsa) THAT YtccmppnindkgfaaDoorProg.lean LOADS. Nothing in Lean hashes anything: it is a label: what it is worth is what the hold of that sum in a sandbox is worth. -/
noncomputable def Tryd.pinned : Pinned := { name := "ytccmppnindkgfaadoor", sum := "34fa4453bf032de1693448a06267d99da5af90a4d0f61fe912959f14173dd655", checked := Tryd.checked }
namespace Rows
def none {H : Type} : Left H := { results := [], args := [] }

/- WHAT THE LISTED PACKAGE-LEVEL VARIABLES READ AS WHEN THE CALL BEGINS. Each datum BY PROGRAM (the guide's laid-datum.mjs) off the statement by which the dump's own 'gosem.cut.vars' lays the variable. In a bare row this is a premise. The card (YtccmppnindkgfaaDoorCards.lean) ties it to the program's text. -/
def laid_derrick_rdata_layouts {H : Type} : DataW H := .agg [.agg [.lit (.int .u16 1), .agg [.lit (.int .i64 4), .lit (.int .i64 0), .lit (.int .i64 0)]], .agg [.lit (.int .u16 2), .agg [.lit (.int .i64 (-1)), .lit (.int .i64 0), .lit (.int .i64 0)]], .agg [.lit (.int .u16 5), .agg [.lit (.int .i64 (-1)), .lit (.int .i64 0), .lit (.int .i64 0)]], .agg [.lit (.int .u16 6), .agg [.lit (.int .i64 (-1)), .lit (.int .i64 (-1)), .lit (.int .i64 20)]], .agg [.lit (.int .u16 12), .agg [.lit (.int .i64 (-1)), .lit (.int .i64 0), .lit (.int .i64 0)]], .agg [.lit (.int .u16 15), .agg [.lit (.int .i64 2), .lit (.int .i64 (-1)), .lit (.int .i64 0)]], .agg [.lit (.int .u16 16), .agg [.lit (.int .i64 (-2)), .lit (.int .i64 0), .lit (.int .i64 0)]], .agg [.lit (.int .u16 28), .agg [.lit (.int .i64 16), .lit (.int .i64 0), .lit (.int .i64 0)]]]

/-- 'derricklaw04.RdataTells': WHATEVER THE INPUT: true; the input reads as it did. -/
def rdataTellsSpec : ChangeSpec := { name := "rdataTells", fn := fun _ => fun
  | [d1, d2, d3, d4, d5] => { results := [.lit (.bool true)], args := [d1, d2, d3, d4, d5] }
  | _ => none }
def rdataTellsRow : OpenClaim := { program := "ytccmppnindkgfaadoor", sum := "34fa4453bf032de1693448a06267d99da5af90a4d0f61fe912959f14173dd655", func := "derrick/derricklaw04.RdataTells", spec := "rdataTells", inPlace := ["internal/abi.NoEscape"], unfollowed := true, recurses := true, named := ["derrick/rdata.layouts"], apart := false, laid := [("derrick/rdata.layouts", laid_derrick_rdata_layouts)] }
def RdataTellsSaid : Prop := rdataTellsRow.holds Tryd.pinned (OpenSpec.ofChange rdataTellsSpec)

/-- ITS FALSE NEIGHBOUR: 'it returns false'. Refute it at one input. -/
def rdataTellsWrong : ChangeSpec := { name := "rdataTells", fn := fun _ => fun
  | [d1, d2, d3, d4, d5] => { results := [.lit (.bool false)], args := [d1, d2, d3, d4, d5] }
  | _ => none }
def RdataTellsWrongFalsely : Prop := rdataTellsRow.holds Tryd.pinned (OpenSpec.ofChange rdataTellsWrong)

/-- 'derricklaw04.RdataPuts': WHATEVER THE INPUT: true; the input reads as it did. -/
def rdataPutsSpec : ChangeSpec := { name := "rdataPuts", fn := fun _ => fun
  | [d] => { results := [.lit (.bool true)], args := [d] }
  | _ => none }
def rdataPutsRow : OpenClaim := { program := "ytccmppnindkgfaadoor", sum := "34fa4453bf032de1693448a06267d99da5af90a4d0f61fe912959f14173dd655", func := "derrick/derricklaw04.RdataPuts", spec := "rdataPuts", inPlace := ["internal/abi.NoEscape"], unfollowed := true, recurses := true, named := ["derrick/rdata.layouts"], apart := false, laid := [("derrick/rdata.layouts", laid_derrick_rdata_layouts)] }
def RdataPutsSaid : Prop := rdataPutsRow.holds Tryd.pinned (OpenSpec.ofChange rdataPutsSpec)

/-- ITS FALSE NEIGHBOUR: 'it returns false'. Refute it at one input. -/
def rdataPutsWrong : ChangeSpec := { name := "rdataPuts", fn := fun _ => fun
  | [d] => { results := [.lit (.bool false)], args := [d] }
  | _ => none }
def RdataPutsWrongFalsely : Prop := rdataPutsRow.holds Tryd.pinned (OpenSpec.ofChange rdataPutsWrong)

/-- 'derricklaw04.RdataBack': WHATEVER THE INPUT: true; the input reads as it did. -/
def rdataBackSpec : ChangeSpec := { name := "rdataBack", fn := fun _ => fun
  | [d1, d2] => { results := [.lit (.bool true)], args := [d1, d2] }
  | _ => none }
def rdataBackRow : OpenClaim := { program := "ytccmppnindkgfaadoor", sum := "34fa4453bf032de1693448a06267d99da5af90a4d0f61fe912959f14173dd655", func := "derrick/derricklaw04.RdataBack", spec := "rdataBack", inPlace := ["internal/abi.NoEscape"], unfollowed := true, recurses := true, named := ["derrick/rdata.layouts"], apart := false, laid := [("derrick/rdata.layouts", laid_derrick_rdata_layouts)] }
def RdataBackSaid : Prop := rdataBackRow.holds Tryd.pinned (OpenSpec.ofChange rdataBackSpec)

/-- ITS FALSE NEIGHBOUR: 'it returns false'. Refute it at one input. -/
def rdataBackWrong : ChangeSpec := { name := "rdataBack", fn := fun _ => fun
  | [d1, d2] => { results := [.lit (.bool false)], args := [d1, d2] }
  | _ => none }
def RdataBackWrongFalsely : Prop := rdataBackRow.holds Tryd.pinned (OpenSpec.ofChange rdataBackWrong)

/-- 'derricklaw04.RdataVery': WHATEVER THE INPUT: true; the input reads as it did. -/
def rdataVerySpec : ChangeSpec := { name := "rdataVery", fn := fun _ => fun
  | [d1, d2, d3, d4] => { results := [.lit (.bool true)], args := [d1, d2, d3, d4] }
  | _ => none }
def rdataVeryRow : OpenClaim := { program := "ytccmppnindkgfaadoor", sum := "34fa4453bf032de1693448a06267d99da5af90a4d0f61fe912959f14173dd655", func := "derrick/derricklaw04.RdataVery", spec := "rdataVery", inPlace := ["internal/abi.NoEscape"], unfollowed := true, recurses := true, named := ["derrick/rdata.layouts"], apart := false, laid := [("derrick/rdata.layouts", laid_derrick_rdata_layouts)] }
def RdataVerySaid : Prop := rdataVeryRow.holds Tryd.pinned (OpenSpec.ofChange rdataVerySpec)

/-- ITS FALSE NEIGHBOUR: 'it returns false'. Refute it at one input. -/
def rdataVeryWrong : ChangeSpec := { name := "rdataVery", fn := fun _ => fun
  | [d1, d2, d3, d4] => { results := [.lit (.bool false)], args := [d1, d2, d3, d4] }
  | _ => none }
def RdataVeryWrongFalsely : Prop := rdataVeryRow.holds Tryd.pinned (OpenSpec.ofChange rdataVeryWrong)

/-- 'derricklaw04.RdataOther': WHATEVER THE INPUT: true; the input reads as it did. -/
def rdataOtherSpec : ChangeSpec := { name := "rdataOther", fn := fun _ => fun
  | [d1, d2] => { results := [.lit (.bool true)], args := [d1, d2] }
  | _ => none }
def rdataOtherRow : OpenClaim := { program := "ytccmppnindkgfaadoor", sum := "34fa4453bf032de1693448a06267d99da5af90a4d0f61fe912959f14173dd655", func := "derrick/derricklaw04.RdataOther", spec := "rdataOther", inPlace := ["internal/abi.NoEscape"], unfollowed := true, recurses := true, named := ["derrick/rdata.layouts"], apart := false, laid := [("derrick/rdata.layouts", laid_derrick_rdata_layouts)] }
def RdataOtherSaid : Prop := rdataOtherRow.holds Tryd.pinned (OpenSpec.ofChange rdataOtherSpec)

/-- ITS FALSE NEIGHBOUR: 'it returns false'. Refute it at one input. -/
def rdataOtherWrong : ChangeSpec := { name := "rdataOther", fn := fun _ => fun
  | [d1, d2] => { results := [.lit (.bool false)], args := [d1, d2] }
  | _ => none }
def RdataOtherWrongFalsely : Prop := rdataOtherRow.holds Tryd.pinned (OpenSpec.ofChange rdataOtherWrong)

/- THE SECOND FORM. 'bulk': how many values and letters a reading holds, each counted each time it is reached (what is shared counts as often as it is met; a slice's spare places count too). A statement '..UptoSaid' is the law's where the arguments, and the package variables that the reading takes, are together of bulk at most 1048576: NARROWER than '..Said'. Prove '..Said' where nothing that the law and all that it calls make is longer than what came in: it says more and counts as full. Else prove '..UptoSaid'. A law counts once. -/
mutual
def uptoBulk {H : Type} : DataW H → Nat
  | .lit (.string bytes) => bytes.length + 1
  | .lit _ => 1
  | .nil => 1
  | .ptr d => uptoBulk d + 1
  | .slice elems spare => uptoBulkAll elems + uptoBulkAll spare + 1
  | .agg parts => uptoBulkAll parts + 1
  | .iface _ d => uptoBulk d + 1
  | .map entries => uptoBulkEntries entries + 1
  | .held _ => 1
def uptoBulkAll {H : Type} : List (DataW H) → Nat
  | [] => 0
  | d :: r => uptoBulk d + uptoBulkAll r
def uptoBulkEntries {H : Type} : List (Lit × DataW H) → Nat
  | [] => 0
  | x :: r => uptoBulkEntry x + uptoBulkEntries r
def uptoBulkEntry {H : Type} : Lit × DataW H → Nat
  | (.string bytes, d) => bytes.length + uptoBulk d + 1
  | (_, d) => uptoBulk d + 1
 end
def uptoSmall : (H : Type) → List (DataW H) → Bool := fun _ ds => decide (uptoBulkAll ds ≤ 1048576)
def OpenSpec.upto (s : _root_.Go.ChangeSpec) : _root_.Go.OpenSpec := { _root_.Go.OpenSpec.ofChange s with cond := some uptoSmall }

/-- 'derricklaw04.RdataTells', WHERE WHAT IT READS IS OF BULK AT MOST 1048576: true; the input reads as it did. -/
def rdataTellsUptoRow : OpenClaim := { program := "ytccmppnindkgfaadoor", sum := "34fa4453bf032de1693448a06267d99da5af90a4d0f61fe912959f14173dd655", func := "derrick/derricklaw04.RdataTells", spec := "rdataTells", inPlace := ["internal/abi.NoEscape"], unfollowed := true, recurses := true, named := ["derrick/rdata.layouts"], apart := false, laid := [("derrick/rdata.layouts", laid_derrick_rdata_layouts)], narrowed := true }
def RdataTellsUptoSaid : Prop := rdataTellsUptoRow.holds Tryd.pinned (OpenSpec.upto rdataTellsSpec)

/-- 'derricklaw04.RdataPuts', WHERE WHAT IT READS IS OF BULK AT MOST 1048576: true; the input reads as it did. -/
def rdataPutsUptoRow : OpenClaim := { program := "ytccmppnindkgfaadoor", sum := "34fa4453bf032de1693448a06267d99da5af90a4d0f61fe912959f14173dd655", func := "derrick/derricklaw04.RdataPuts", spec := "rdataPuts", inPlace := ["internal/abi.NoEscape"], unfollowed := true, recurses := true, named := ["derrick/rdata.layouts"], apart := false, laid := [("derrick/rdata.layouts", laid_derrick_rdata_layouts)], narrowed := true }
def RdataPutsUptoSaid : Prop := rdataPutsUptoRow.holds Tryd.pinned (OpenSpec.upto rdataPutsSpec)

/-- 'derricklaw04.RdataBack', WHERE WHAT IT READS IS OF BULK AT MOST 1048576: true; the input reads as it did. -/
def rdataBackUptoRow : OpenClaim := { program := "ytccmppnindkgfaadoor", sum := "34fa4453bf032de1693448a06267d99da5af90a4d0f61fe912959f14173dd655", func := "derrick/derricklaw04.RdataBack", spec := "rdataBack", inPlace := ["internal/abi.NoEscape"], unfollowed := true, recurses := true, named := ["derrick/rdata.layouts"], apart := false, laid := [("derrick/rdata.layouts", laid_derrick_rdata_layouts)], narrowed := true }
def RdataBackUptoSaid : Prop := rdataBackUptoRow.holds Tryd.pinned (OpenSpec.upto rdataBackSpec)

/-- 'derricklaw04.RdataVery', WHERE WHAT IT READS IS OF BULK AT MOST 1048576: true; the input reads as it did. -/
def rdataVeryUptoRow : OpenClaim := { program := "ytccmppnindkgfaadoor", sum := "34fa4453bf032de1693448a06267d99da5af90a4d0f61fe912959f14173dd655", func := "derrick/derricklaw04.RdataVery", spec := "rdataVery", inPlace := ["internal/abi.NoEscape"], unfollowed := true, recurses := true, named := ["derrick/rdata.layouts"], apart := false, laid := [("derrick/rdata.layouts", laid_derrick_rdata_layouts)], narrowed := true }
def RdataVeryUptoSaid : Prop := rdataVeryUptoRow.holds Tryd.pinned (OpenSpec.upto rdataVerySpec)

/-- 'derricklaw04.RdataOther', WHERE WHAT IT READS IS OF BULK AT MOST 1048576: true; the input reads as it did. -/
def rdataOtherUptoRow : OpenClaim := { program := "ytccmppnindkgfaadoor", sum := "34fa4453bf032de1693448a06267d99da5af90a4d0f61fe912959f14173dd655", func := "derrick/derricklaw04.RdataOther", spec := "rdataOther", inPlace := ["internal/abi.NoEscape"], unfollowed := true, recurses := true, named := ["derrick/rdata.layouts"], apart := false, laid := [("derrick/rdata.layouts", laid_derrick_rdata_layouts)], narrowed := true }
def RdataOtherUptoSaid : Prop := rdataOtherUptoRow.holds Tryd.pinned (OpenSpec.upto rdataOtherSpec)

end Rows
end Go.Proofs.YtccmppnindkgfaaDoor
