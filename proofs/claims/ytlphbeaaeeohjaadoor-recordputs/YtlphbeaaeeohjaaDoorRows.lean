/-
  NARROWER THAN 'FOR EVERY INPUT', by the rows' own cells (each row's printed sentence says how): RecordTells: laid · RecordPuts: laid · RecordBack: laid · RecordVery: laid · RecordSame: laid.
  DERIVED. THE GIVEN ROWS OF THIS SEAT. 5 by the template 'for every input the law returns true; each argument reads behind the call as it read before'; 0 by the template 'total and deterministic' (their statements: YtlphbeaaeeohjaaDoorTotals.lean).
  GIVEN WITH THE SEED: the statements are not yours to turn. If you find one false, say at which input.
  Laid BY PROGRAM, IN A SANDBOX (cutbox-rows.mjs): the forced cells as the released guide's own fill.sh prints them over the translation b6234069e15b4f0a… (all of the seat's roots in one cut). By AI agents, Wed Nov 11 2026. No macro, syntax, notation, axiom, sorry.
-/
import Derived.Test.YtlphbeaaeeohjaaDoorChecked
import GoSem.Claim
import GoSem.ClaimJoined
import GoSem.ClaimMapViews
import Derived.JoinedTies
import Derived.KernelRfl
namespace Go.Proofs.YtlphbeaaeeohjaaDoor
/- THE CELL 'sum', in the pinned program and in every row, IS THE sha256 OF THE DUMP (.gsa) THAT YtlphbeaaeeohjaaDoorProg.lean LOADS. Nothing in Lean hashes anything: it is a label: what it is worth is what the hold of that sum in a sandbox is worth. -/
noncomputable def Tryd.pinned : Pinned := { name := "ytlphbeaaeeohjaadoor", sum := "b6234069e15b4f0aa5f2e16ebff36abe1b48abf9393065e4d4ad2730479e0301", checked := Tryd.checked }
namespace Rows
def none {H : Type} : Left H := { results := [], args := [] }

/- WHAT THE LISTED PACKAGE-LEVEL VARIABLES READ AS WHEN THE CALL BEGINS. Each datum BY PROGRAM (the guide's laid-datum.mjs) off the statement by which the dump's own 'gosem.cut.vars' lays the variable. In a bare row this is a premise. The card (YtlphbeaaeeohjaaDoorCards.lean) ties it to the program's text. -/
def laid_derrick_rdata_layouts {H : Type} : DataW H := .agg [.agg [.lit (.int .u16 1), .agg [.lit (.int .i64 4), .lit (.int .i64 0), .lit (.int .i64 0)]], .agg [.lit (.int .u16 2), .agg [.lit (.int .i64 (-1)), .lit (.int .i64 0), .lit (.int .i64 0)]], .agg [.lit (.int .u16 5), .agg [.lit (.int .i64 (-1)), .lit (.int .i64 0), .lit (.int .i64 0)]], .agg [.lit (.int .u16 6), .agg [.lit (.int .i64 (-1)), .lit (.int .i64 (-1)), .lit (.int .i64 20)]], .agg [.lit (.int .u16 12), .agg [.lit (.int .i64 (-1)), .lit (.int .i64 0), .lit (.int .i64 0)]], .agg [.lit (.int .u16 15), .agg [.lit (.int .i64 2), .lit (.int .i64 (-1)), .lit (.int .i64 0)]], .agg [.lit (.int .u16 16), .agg [.lit (.int .i64 (-2)), .lit (.int .i64 0), .lit (.int .i64 0)]], .agg [.lit (.int .u16 28), .agg [.lit (.int .i64 16), .lit (.int .i64 0), .lit (.int .i64 0)]]]

/-- 'derricklaw05.RecordTells': WHATEVER THE INPUT: true; the input reads as it did. -/
def recordTellsSpec : ChangeSpec := { name := "recordTells", fn := fun _ => fun
  | [d1, d2, d3, d4] => { results := [.lit (.bool true)], args := [d1, d2, d3, d4] }
  | _ => none }
def recordTellsRow : OpenClaim := { program := "ytlphbeaaeeohjaadoor", sum := "b6234069e15b4f0aa5f2e16ebff36abe1b48abf9393065e4d4ad2730479e0301", func := "derrick/derricklaw05.RecordTells", spec := "recordTells", inPlace := ["internal/abi.NoEscape"], unfollowed := true, recurses := true, named := ["derrick/rdata.layouts"], apart := false, laid := [("derrick/rdata.layouts", laid_derrick_rdata_layouts)] }
def RecordTellsSaid : Prop := recordTellsRow.holds Tryd.pinned (OpenSpec.ofChange recordTellsSpec)

/-- ITS FALSE NEIGHBOUR: 'it returns false'. Refute it at one input. -/
def recordTellsWrong : ChangeSpec := { name := "recordTells", fn := fun _ => fun
  | [d1, d2, d3, d4] => { results := [.lit (.bool false)], args := [d1, d2, d3, d4] }
  | _ => none }
def RecordTellsWrongFalsely : Prop := recordTellsRow.holds Tryd.pinned (OpenSpec.ofChange recordTellsWrong)

/-- 'derricklaw05.RecordPuts': WHATEVER THE INPUT: true; the input reads as it did. -/
def recordPutsSpec : ChangeSpec := { name := "recordPuts", fn := fun _ => fun
  | [d1, d2] => { results := [.lit (.bool true)], args := [d1, d2] }
  | _ => none }
def recordPutsRow : OpenClaim := { program := "ytlphbeaaeeohjaadoor", sum := "b6234069e15b4f0aa5f2e16ebff36abe1b48abf9393065e4d4ad2730479e0301", func := "derrick/derricklaw05.RecordPuts", spec := "recordPuts", inPlace := ["internal/abi.NoEscape"], unfollowed := true, recurses := true, named := ["derrick/rdata.layouts"], apart := false, laid := [("derrick/rdata.layouts", laid_derrick_rdata_layouts)] }
def RecordPutsSaid : Prop := recordPutsRow.holds Tryd.pinned (OpenSpec.ofChange recordPutsSpec)

/-- ITS FALSE NEIGHBOUR: 'it returns false'. Refute it at one input. -/
def recordPutsWrong : ChangeSpec := { name := "recordPuts", fn := fun _ => fun
  | [d1, d2] => { results := [.lit (.bool false)], args := [d1, d2] }
  | _ => none }
def RecordPutsWrongFalsely : Prop := recordPutsRow.holds Tryd.pinned (OpenSpec.ofChange recordPutsWrong)

/-- 'derricklaw05.RecordBack': WHATEVER THE INPUT: true; the input reads as it did. -/
def recordBackSpec : ChangeSpec := { name := "recordBack", fn := fun _ => fun
  | [d1, d2] => { results := [.lit (.bool true)], args := [d1, d2] }
  | _ => none }
def recordBackRow : OpenClaim := { program := "ytlphbeaaeeohjaadoor", sum := "b6234069e15b4f0aa5f2e16ebff36abe1b48abf9393065e4d4ad2730479e0301", func := "derrick/derricklaw05.RecordBack", spec := "recordBack", inPlace := ["internal/abi.NoEscape"], unfollowed := true, recurses := true, named := ["derrick/rdata.layouts"], apart := false, laid := [("derrick/rdata.layouts", laid_derrick_rdata_layouts)] }
def RecordBackSaid : Prop := recordBackRow.holds Tryd.pinned (OpenSpec.ofChange recordBackSpec)

/-- ITS FALSE NEIGHBOUR: 'it returns false'. Refute it at one input. -/
def recordBackWrong : ChangeSpec := { name := "recordBack", fn := fun _ => fun
  | [d1, d2] => { results := [.lit (.bool false)], args := [d1, d2] }
  | _ => none }
def RecordBackWrongFalsely : Prop := recordBackRow.holds Tryd.pinned (OpenSpec.ofChange recordBackWrong)

/-- 'derricklaw05.RecordVery': WHATEVER THE INPUT: true; the input reads as it did. -/
def recordVerySpec : ChangeSpec := { name := "recordVery", fn := fun _ => fun
  | [d1, d2, d3] => { results := [.lit (.bool true)], args := [d1, d2, d3] }
  | _ => none }
def recordVeryRow : OpenClaim := { program := "ytlphbeaaeeohjaadoor", sum := "b6234069e15b4f0aa5f2e16ebff36abe1b48abf9393065e4d4ad2730479e0301", func := "derrick/derricklaw05.RecordVery", spec := "recordVery", inPlace := ["internal/abi.NoEscape"], unfollowed := true, recurses := true, named := ["derrick/rdata.layouts"], apart := false, laid := [("derrick/rdata.layouts", laid_derrick_rdata_layouts)] }
def RecordVerySaid : Prop := recordVeryRow.holds Tryd.pinned (OpenSpec.ofChange recordVerySpec)

/-- ITS FALSE NEIGHBOUR: 'it returns false'. Refute it at one input. -/
def recordVeryWrong : ChangeSpec := { name := "recordVery", fn := fun _ => fun
  | [d1, d2, d3] => { results := [.lit (.bool false)], args := [d1, d2, d3] }
  | _ => none }
def RecordVeryWrongFalsely : Prop := recordVeryRow.holds Tryd.pinned (OpenSpec.ofChange recordVeryWrong)

/-- 'derricklaw05.RecordSame': WHATEVER THE INPUT: true; the input reads as it did. -/
def recordSameSpec : ChangeSpec := { name := "recordSame", fn := fun _ => fun
  | [d1, d2, d3] => { results := [.lit (.bool true)], args := [d1, d2, d3] }
  | _ => none }
def recordSameRow : OpenClaim := { program := "ytlphbeaaeeohjaadoor", sum := "b6234069e15b4f0aa5f2e16ebff36abe1b48abf9393065e4d4ad2730479e0301", func := "derrick/derricklaw05.RecordSame", spec := "recordSame", inPlace := ["internal/abi.NoEscape"], unfollowed := true, recurses := true, named := ["derrick/rdata.layouts"], apart := false, laid := [("derrick/rdata.layouts", laid_derrick_rdata_layouts)] }
def RecordSameSaid : Prop := recordSameRow.holds Tryd.pinned (OpenSpec.ofChange recordSameSpec)

/-- ITS FALSE NEIGHBOUR: 'it returns false'. Refute it at one input. -/
def recordSameWrong : ChangeSpec := { name := "recordSame", fn := fun _ => fun
  | [d1, d2, d3] => { results := [.lit (.bool false)], args := [d1, d2, d3] }
  | _ => none }
def RecordSameWrongFalsely : Prop := recordSameRow.holds Tryd.pinned (OpenSpec.ofChange recordSameWrong)

/- THE SECOND FORM. 'bulk': how many values and letters a reading holds, each counted each time it is reached (what is shared counts as often as it is met; a slice's spare places count too). A statement '..UptoSaid' is the law's where the arguments, and the package variables that the reading takes, are together of bulk at most 1048576: NARROWER than '..Said'. Prove '..Said' where nothing that the law and all that it calls make is longer than what came in: it says more and counts as full. Else prove '..UptoSaid'. A law counts once. -/
mutual
def uptoBulk {H : Type} : DataW H → Nat
  | .lit (.string bytes) => bytes.length + 1
  | .lit _ => 1
  | .nil => 1
  | .ptr d => uptoBulk d + 1
  | .slice elems spare => uptoBulkAll elems + uptoBulkAll spare + 1
  | .agg parts => uptoBulkAll parts + 1
  | .iface _ d => uptoBulk d + 1
  | .map entries => uptoBulkEntries entries + 1
  | .held _ => 1
def uptoBulkAll {H : Type} : List (DataW H) → Nat
  | [] => 0
  | d :: r => uptoBulk d + uptoBulkAll r
def uptoBulkEntries {H : Type} : List (Lit × DataW H) → Nat
  | [] => 0
  | x :: r => uptoBulkEntry x + uptoBulkEntries r
def uptoBulkEntry {H : Type} : Lit × DataW H → Nat
  | (.string bytes, d) => bytes.length + uptoBulk d + 1
  | (_, d) => uptoBulk d + 1
 end
def uptoSmall : (H : Type) → List (DataW H) → Bool := fun _ ds => decide (uptoBulkAll ds ≤ 1048576)
def OpenSpec.upto (s : _root_.Go.ChangeSpec) : _root_.Go.OpenSpec := { _root_.Go.OpenSpec.ofChange s with cond := some uptoSmall }

/-- 'derricklaw05.RecordTells', WHERE WHAT IT READS IS OF BULK AT MOST 1048576: true; the input reads as it did. -/
def recordTellsUptoRow : OpenClaim := { program := "ytlphbeaaeeohjaadoor", sum := "b6234069e15b4f0aa5f2e16ebff36abe1b48abf9393065e4d4ad2730479e0301", func := "derrick/derricklaw05.RecordTells", spec := "recordTells", inPlace := ["internal/abi.NoEscape"], unfollowed := true, recurses := true, named := ["derrick/rdata.layouts"], apart := false, laid := [("derrick/rdata.layouts", laid_derrick_rdata_layouts)], narrowed := true }
def RecordTellsUptoSaid : Prop := recordTellsUptoRow.holds Tryd.pinned (OpenSpec.upto recordTellsSpec)

/-- 'derricklaw05.RecordPuts', WHERE WHAT IT READS IS OF BULK AT MOST 1048576: true; the input reads as it did. -/
def recordPutsUptoRow : OpenClaim := { program := "ytlphbeaaeeohjaadoor", sum := "b6234069e15b4f0aa5f2e16ebff36abe1b48abf9393065e4d4ad2730479e0301", func := "derrick/derricklaw05.RecordPuts", spec := "recordPuts", inPlace := ["internal/abi.NoEscape"], unfollowed := true, recurses := true, named := ["derrick/rdata.layouts"], apart := false, laid := [("derrick/rdata.layouts", laid_derrick_rdata_layouts)], narrowed := true }
def RecordPutsUptoSaid : Prop := recordPutsUptoRow.holds Tryd.pinned (OpenSpec.upto recordPutsSpec)

/-- 'derricklaw05.RecordBack', WHERE WHAT IT READS IS OF BULK AT MOST 1048576: true; the input reads as it did. -/
def recordBackUptoRow : OpenClaim := { program := "ytlphbeaaeeohjaadoor", sum := "b6234069e15b4f0aa5f2e16ebff36abe1b48abf9393065e4d4ad2730479e0301", func := "derrick/derricklaw05.RecordBack", spec := "recordBack", inPlace := ["internal/abi.NoEscape"], unfollowed := true, recurses := true, named := ["derrick/rdata.layouts"], apart := false, laid := [("derrick/rdata.layouts", laid_derrick_rdata_layouts)], narrowed := true }
def RecordBackUptoSaid : Prop := recordBackUptoRow.holds Tryd.pinned (OpenSpec.upto recordBackSpec)

/-- 'derricklaw05.RecordVery', WHERE WHAT IT READS IS OF BULK AT MOST 1048576: true; the input reads as it did. -/
def recordVeryUptoRow : OpenClaim := { program := "ytlphbeaaeeohjaadoor", sum := "b6234069e15b4f0aa5f2e16ebff36abe1b48abf9393065e4d4ad2730479e0301", func := "derrick/derricklaw05.RecordVery", spec := "recordVery", inPlace := ["internal/abi.NoEscape"], unfollowed := true, recurses := true, named := ["derrick/rdata.layouts"], apart := false, laid := [("derrick/rdata.layouts", laid_derrick_rdata_layouts)], narrowed := true }
def RecordVeryUptoSaid : Prop := recordVeryUptoRow.holds Tryd.pinned (OpenSpec.upto recordVerySpec)

/-- 'derricklaw05.RecordSame', WHERE WHAT IT READS IS OF BULK AT MOST 1048576: true; the input reads as it did. -/
def recordSameUptoRow : OpenClaim := { program := "ytlphbeaaeeohjaadoor", sum := "b6234069e15b4f0aa5f2e16ebff36abe1b48abf9393065e4d4ad2730479e0301", func := "derrick/derricklaw05.RecordSame", spec := "recordSame", inPlace := ["internal/abi.NoEscape"], unfollowed := true, recurses := true, named := ["derrick/rdata.layouts"], apart := false, laid := [("derrick/rdata.layouts", laid_derrick_rdata_layouts)], narrowed := true }
def RecordSameUptoSaid : Prop := recordSameUptoRow.holds Tryd.pinned (OpenSpec.upto recordSameSpec)

end Rows
end Go.Proofs.YtlphbeaaeeohjaaDoor
