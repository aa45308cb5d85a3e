/-
  NARROWER THAN 'FOR EVERY INPUT', by the rows' own cells (each row's printed sentence says how): RankTells: laid · RankOrder: laid · RankNever: laid · RankChain: laid.
  DERIVED. THE GIVEN ROWS OF THIS SEAT. 4 by the template 'for every input the law returns true; each argument reads behind the call as it read before'; 0 by the template 'total and deterministic' (their statements: YtbcgkjfhfegeaaaDoorTotals.lean).
  GIVEN WITH THE SEED: the statements are not yours to turn. If you find one false, say at which input.
  Laid BY PROGRAM, IN A SANDBOX (cutbox-rows.mjs): the forced cells as the released guide's own fill.sh prints them over the translation 3d69c5968cb1c4e9… (all of the seat's roots in one cut). By AI agents, Wed Nov 11 2026. No macro, syntax, notation, axiom, sorry.
-/
import Derived.Test.YtbcgkjfhfegeaaaDoorChecked
import GoSem.Claim
import GoSem.ClaimJoined
import GoSem.ClaimMapViews
import Derived.JoinedTies
import Derived.KernelRfl
namespace Go.Proofs.YtbcgkjfhfegeaaaDoor
/- THE CELL 'sum', in the pinned program and in every row, IS THE sha256 OF THE DUMP (.gsa) THAT YtbcgkjfhfegeaaaDoorProg.lean LOADS. Nothing in Lean hashes anything: it is a label: what it is worth is what the hold of that sum in a sandbox is worth. -/
noncomputable def Tryd.pinned : Pinned := { name := "ytbcgkjfhfegeaaadoor", sum := "3d69c5968cb1c4e9d4047aca99d8fb93bd5df12e9b9c0655141d77df5f43b3e7", checked := Tryd.checked }
namespace Rows
def none {H : Type} : Left H := { results := [], args := [] }

/- WHAT THE LISTED PACKAGE-LEVEL VARIABLES READ AS WHEN THE CALL BEGINS. Each datum BY PROGRAM (the guide's laid-datum.mjs) off the statement by which the dump's own 'gosem.cut.vars' lays the variable. In a bare row this is a premise. The card (YtbcgkjfhfegeaaaDoorCards.lean) ties it to the program's text. -/
def laid_derrick_rank_names {H : Type} : DataW H := .agg [.lit (.string []), .lit (.string [97, 100, 100, 105, 116, 105, 111, 110, 97, 108]), .lit (.string [97, 117, 116, 104, 111, 114, 105, 116, 121]), .lit (.string [97, 110, 115, 119, 101, 114]), .lit (.string [97, 117, 116, 104, 111, 114, 105, 116, 121, 32, 97, 97]), .lit (.string [97, 110, 115, 119, 101, 114, 32, 97, 97])]

/-- 'derricklaw08.RankTells': WHATEVER THE INPUT: true; the input reads as it did. -/
def rankTellsSpec : ChangeSpec := { name := "rankTells", fn := fun _ => fun
  | [d1, d2, d3, d4, d5, d6] => { results := [.lit (.bool true)], args := [d1, d2, d3, d4, d5, d6] }
  | _ => none }
def rankTellsRow : OpenClaim := { program := "ytbcgkjfhfegeaaadoor", sum := "3d69c5968cb1c4e9d4047aca99d8fb93bd5df12e9b9c0655141d77df5f43b3e7", func := "derrick/derricklaw08.RankTells", spec := "rankTells", named := ["derrick/rank.names"], apart := false, laid := [("derrick/rank.names", laid_derrick_rank_names)] }
def RankTellsSaid : Prop := rankTellsRow.holds Tryd.pinned (OpenSpec.ofChange rankTellsSpec)

/-- ITS FALSE NEIGHBOUR: 'it returns false'. Refute it at one input. -/
def rankTellsWrong : ChangeSpec := { name := "rankTells", fn := fun _ => fun
  | [d1, d2, d3, d4, d5, d6] => { results := [.lit (.bool false)], args := [d1, d2, d3, d4, d5, d6] }
  | _ => none }
def RankTellsWrongFalsely : Prop := rankTellsRow.holds Tryd.pinned (OpenSpec.ofChange rankTellsWrong)

/-- 'derricklaw08.RankOrder': WHATEVER THE INPUT: true; the input reads as it did. -/
def rankOrderSpec : ChangeSpec := { name := "rankOrder", fn := fun _ => fun
  | [d1, d2, d3] => { results := [.lit (.bool true)], args := [d1, d2, d3] }
  | _ => none }
def rankOrderRow : OpenClaim := { program := "ytbcgkjfhfegeaaadoor", sum := "3d69c5968cb1c4e9d4047aca99d8fb93bd5df12e9b9c0655141d77df5f43b3e7", func := "derrick/derricklaw08.RankOrder", spec := "rankOrder", named := ["derrick/rank.names"], apart := false, laid := [("derrick/rank.names", laid_derrick_rank_names)] }
def RankOrderSaid : Prop := rankOrderRow.holds Tryd.pinned (OpenSpec.ofChange rankOrderSpec)

/-- ITS FALSE NEIGHBOUR: 'it returns false'. Refute it at one input. -/
def rankOrderWrong : ChangeSpec := { name := "rankOrder", fn := fun _ => fun
  | [d1, d2, d3] => { results := [.lit (.bool false)], args := [d1, d2, d3] }
  | _ => none }
def RankOrderWrongFalsely : Prop := rankOrderRow.holds Tryd.pinned (OpenSpec.ofChange rankOrderWrong)

/-- 'derricklaw08.RankNever': WHATEVER THE INPUT: true; the input reads as it did. -/
def rankNeverSpec : ChangeSpec := { name := "rankNever", fn := fun _ => fun
  | [d1, d2, d3] => { results := [.lit (.bool true)], args := [d1, d2, d3] }
  | _ => none }
def rankNeverRow : OpenClaim := { program := "ytbcgkjfhfegeaaadoor", sum := "3d69c5968cb1c4e9d4047aca99d8fb93bd5df12e9b9c0655141d77df5f43b3e7", func := "derrick/derricklaw08.RankNever", spec := "rankNever", named := ["derrick/rank.names"], apart := false, laid := [("derrick/rank.names", laid_derrick_rank_names)] }
def RankNeverSaid : Prop := rankNeverRow.holds Tryd.pinned (OpenSpec.ofChange rankNeverSpec)

/-- ITS FALSE NEIGHBOUR: 'it returns false'. Refute it at one input. -/
def rankNeverWrong : ChangeSpec := { name := "rankNever", fn := fun _ => fun
  | [d1, d2, d3] => { results := [.lit (.bool false)], args := [d1, d2, d3] }
  | _ => none }
def RankNeverWrongFalsely : Prop := rankNeverRow.holds Tryd.pinned (OpenSpec.ofChange rankNeverWrong)

/-- 'derricklaw08.RankChain': WHATEVER THE INPUT: true; the input reads as it did. -/
def rankChainSpec : ChangeSpec := { name := "rankChain", fn := fun _ => fun
  | [d1, d2, d3, d4, d5] => { results := [.lit (.bool true)], args := [d1, d2, d3, d4, d5] }
  | _ => none }
def rankChainRow : OpenClaim := { program := "ytbcgkjfhfegeaaadoor", sum := "3d69c5968cb1c4e9d4047aca99d8fb93bd5df12e9b9c0655141d77df5f43b3e7", func := "derrick/derricklaw08.RankChain", spec := "rankChain", named := ["derrick/rank.names"], apart := false, laid := [("derrick/rank.names", laid_derrick_rank_names)] }
def RankChainSaid : Prop := rankChainRow.holds Tryd.pinned (OpenSpec.ofChange rankChainSpec)

/-- ITS FALSE NEIGHBOUR: 'it returns false'. Refute it at one input. -/
def rankChainWrong : ChangeSpec := { name := "rankChain", fn := fun _ => fun
  | [d1, d2, d3, d4, d5] => { results := [.lit (.bool false)], args := [d1, d2, d3, d4, d5] }
  | _ => none }
def RankChainWrongFalsely : Prop := rankChainRow.holds Tryd.pinned (OpenSpec.ofChange rankChainWrong)

/- THE SECOND FORM. 'bulk': how many values and letters a reading holds, each counted each time it is reached (what is shared counts as often as it is met; a slice's spare places count too). A statement '..UptoSaid' is the law's where the arguments, and the package variables that the reading takes, are together of bulk at most 1048576: NARROWER than '..Said'. Prove '..Said' where nothing that the law and all that it calls make is longer than what came in: it says more and counts as full. Else prove '..UptoSaid'. A law counts once. -/
mutual
def uptoBulk {H : Type} : DataW H → Nat
  | .lit (.string bytes) => bytes.length + 1
  | .lit _ => 1
  | .nil => 1
  | .ptr d => uptoBulk d + 1
  | .slice elems spare => uptoBulkAll elems + uptoBulkAll spare + 1
  | .agg parts => uptoBulkAll parts + 1
  | .iface _ d => uptoBulk d + 1
  | .map entries => uptoBulkEntries entries + 1
  | .held _ => 1
def uptoBulkAll {H : Type} : List (DataW H) → Nat
  | [] => 0
  | d :: r => uptoBulk d + uptoBulkAll r
def uptoBulkEntries {H : Type} : List (Lit × DataW H) → Nat
  | [] => 0
  | x :: r => uptoBulkEntry x + uptoBulkEntries r
def uptoBulkEntry {H : Type} : Lit × DataW H → Nat
  | (.string bytes, d) => bytes.length + uptoBulk d + 1
  | (_, d) => uptoBulk d + 1
 end
def uptoSmall : (H : Type) → List (DataW H) → Bool := fun _ ds => decide (uptoBulkAll ds ≤ 1048576)
def OpenSpec.upto (s : _root_.Go.ChangeSpec) : _root_.Go.OpenSpec := { _root_.Go.OpenSpec.ofChange s with cond := some uptoSmall }

/-- 'derricklaw08.RankTells', WHERE WHAT IT READS IS OF BULK AT MOST 1048576: true; the input reads as it did. -/
def rankTellsUptoRow : OpenClaim := { program := "ytbcgkjfhfegeaaadoor", sum := "3d69c5968cb1c4e9d4047aca99d8fb93bd5df12e9b9c0655141d77df5f43b3e7", func := "derrick/derricklaw08.RankTells", spec := "rankTells", named := ["derrick/rank.names"], apart := false, laid := [("derrick/rank.names", laid_derrick_rank_names)], narrowed := true }
def RankTellsUptoSaid : Prop := rankTellsUptoRow.holds Tryd.pinned (OpenSpec.upto rankTellsSpec)

/-- 'derricklaw08.RankOrder', WHERE WHAT IT READS IS OF BULK AT MOST 1048576: true; the input reads as it did. -/
def rankOrderUptoRow : OpenClaim := { program := "ytbcgkjfhfegeaaadoor", sum := "3d69c5968cb1c4e9d4047aca99d8fb93bd5df12e9b9c0655141d77df5f43b3e7", func := "derrick/derricklaw08.RankOrder", spec := "rankOrder", named := ["derrick/rank.names"], apart := false, laid := [("derrick/rank.names", laid_derrick_rank_names)], narrowed := true }
def RankOrderUptoSaid : Prop := rankOrderUptoRow.holds Tryd.pinned (OpenSpec.upto rankOrderSpec)

/-- 'derricklaw08.RankNever', WHERE WHAT IT READS IS OF BULK AT MOST 1048576: true; the input reads as it did. -/
def rankNeverUptoRow : OpenClaim := { program := "ytbcgkjfhfegeaaadoor", sum := "3d69c5968cb1c4e9d4047aca99d8fb93bd5df12e9b9c0655141d77df5f43b3e7", func := "derrick/derricklaw08.RankNever", spec := "rankNever", named := ["derrick/rank.names"], apart := false, laid := [("derrick/rank.names", laid_derrick_rank_names)], narrowed := true }
def RankNeverUptoSaid : Prop := rankNeverUptoRow.holds Tryd.pinned (OpenSpec.upto rankNeverSpec)

/-- 'derricklaw08.RankChain', WHERE WHAT IT READS IS OF BULK AT MOST 1048576: true; the input reads as it did. -/
def rankChainUptoRow : OpenClaim := { program := "ytbcgkjfhfegeaaadoor", sum := "3d69c5968cb1c4e9d4047aca99d8fb93bd5df12e9b9c0655141d77df5f43b3e7", func := "derrick/derricklaw08.RankChain", spec := "rankChain", named := ["derrick/rank.names"], apart := false, laid := [("derrick/rank.names", laid_derrick_rank_names)], narrowed := true }
def RankChainUptoSaid : Prop := rankChainUptoRow.holds Tryd.pinned (OpenSpec.upto rankChainSpec)

end Rows
end Go.Proofs.YtbcgkjfhfegeaaaDoor
