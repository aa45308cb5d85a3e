/-
  No cell of these rows narrows 'for every input' (looked for: loops, veiled, ifaces, maps, wideKeys, modest, calm, conditions, laid).
  DERIVED. THE GIVEN ROWS OF THIS SEAT. 6 by the template 'for every input the law returns true; each argument reads behind the call as it read before'; 0 by the template 'total and deterministic' (their statements: YtomhfjpjdgecpaaTotals.lean).
  GIVEN WITH THE SEED: the statements are not yours to turn. If you find one false, say at which input.
  Laid BY PROGRAM, IN A SANDBOX (cutbox-rows.mjs): the forced cells as the released guide's own fill.sh prints them over the translation 34549ac3ecca46d5… (all of the seat's roots in one cut). By AI agents, Wed Nov 11 2026. No macro, syntax, notation, axiom, sorry.
-/
import Derived.Test.YtomhfjpjdgecpaaChecked
import GoSem.Claim
import GoSem.ClaimJoined
import GoSem.ClaimMapViews
import Derived.JoinedTies
import Derived.KernelRfl
namespace Go.Proofs.Ytomhfjpjdgecpaa
/- THE CELL 'sum', in the pinned program and in every row, IS THE sha256 OF THE DUMP (.gsa) THAT YtomhfjpjdgecpaaProg.lean LOADS. Nothing in Lean hashes anything: it is a label: what it is worth is what the hold of that sum in a sandbox is worth. -/
noncomputable def Try.pinned : Pinned := { name := "ytomhfjpjdgecpaa", sum := "34549ac3ecca46d5c85d6f322f791331d56348edbcacc641a9d64ef7d2cad70a", checked := Try.checked }
namespace Rows
def none {H : Type} : Left H := { results := [], args := [] }

/-- 'derricklaw07.TtlTells': WHATEVER THE INPUT: true; the input reads as it did. -/
def ttlTellsSpec : ChangeSpec := { name := "ttlTells", fn := fun _ => fun
  | [d1, d2, d3, d4] => { results := [.lit (.bool true)], args := [d1, d2, d3, d4] }
  | _ => none }
def ttlTellsRow : OpenClaim := { program := "ytomhfjpjdgecpaa", sum := "34549ac3ecca46d5c85d6f322f791331d56348edbcacc641a9d64ef7d2cad70a", func := "derrick/derricklaw07.TtlTells", spec := "ttlTells", apart := false }
def TtlTellsSaid : Prop := ttlTellsRow.holds Try.pinned (OpenSpec.ofChange ttlTellsSpec)

/-- ITS FALSE NEIGHBOUR: 'it returns false'. Refute it at one input. -/
def ttlTellsWrong : ChangeSpec := { name := "ttlTells", fn := fun _ => fun
  | [d1, d2, d3, d4] => { results := [.lit (.bool false)], args := [d1, d2, d3, d4] }
  | _ => none }
def TtlTellsWrongFalsely : Prop := ttlTellsRow.holds Try.pinned (OpenSpec.ofChange ttlTellsWrong)

/-- 'derricklaw07.TtlLists': WHATEVER THE INPUT: true; the input reads as it did. -/
def ttlListsSpec : ChangeSpec := { name := "ttlLists", fn := fun _ => fun
  | [d1, d2] => { results := [.lit (.bool true)], args := [d1, d2] }
  | _ => none }
def ttlListsRow : OpenClaim := { program := "ytomhfjpjdgecpaa", sum := "34549ac3ecca46d5c85d6f322f791331d56348edbcacc641a9d64ef7d2cad70a", func := "derrick/derricklaw07.TtlLists", spec := "ttlLists", apart := false }
def TtlListsSaid : Prop := ttlListsRow.holds Try.pinned (OpenSpec.ofChange ttlListsSpec)

/-- ITS FALSE NEIGHBOUR: 'it returns false'. Refute it at one input. -/
def ttlListsWrong : ChangeSpec := { name := "ttlLists", fn := fun _ => fun
  | [d1, d2] => { results := [.lit (.bool false)], args := [d1, d2] }
  | _ => none }
def TtlListsWrongFalsely : Prop := ttlListsRow.holds Try.pinned (OpenSpec.ofChange ttlListsWrong)

/-- 'derricklaw07.TtlFalls': WHATEVER THE INPUT: true; the input reads as it did. -/
def ttlFallsSpec : ChangeSpec := { name := "ttlFalls", fn := fun _ => fun
  | [d1, d2, d3] => { results := [.lit (.bool true)], args := [d1, d2, d3] }
  | _ => none }
def ttlFallsRow : OpenClaim := { program := "ytomhfjpjdgecpaa", sum := "34549ac3ecca46d5c85d6f322f791331d56348edbcacc641a9d64ef7d2cad70a", func := "derrick/derricklaw07.TtlFalls", spec := "ttlFalls", apart := false }
def TtlFallsSaid : Prop := ttlFallsRow.holds Try.pinned (OpenSpec.ofChange ttlFallsSpec)

/-- ITS FALSE NEIGHBOUR: 'it returns false'. Refute it at one input. -/
def ttlFallsWrong : ChangeSpec := { name := "ttlFalls", fn := fun _ => fun
  | [d1, d2, d3] => { results := [.lit (.bool false)], args := [d1, d2, d3] }
  | _ => none }
def TtlFallsWrongFalsely : Prop := ttlFallsRow.holds Try.pinned (OpenSpec.ofChange ttlFallsWrong)

/-- 'derricklaw07.TtlNever': WHATEVER THE INPUT: true; the input reads as it did. -/
def ttlNeverSpec : ChangeSpec := { name := "ttlNever", fn := fun _ => fun
  | [d1, d2, d3, d4] => { results := [.lit (.bool true)], args := [d1, d2, d3, d4] }
  | _ => none }
def ttlNeverRow : OpenClaim := { program := "ytomhfjpjdgecpaa", sum := "34549ac3ecca46d5c85d6f322f791331d56348edbcacc641a9d64ef7d2cad70a", func := "derrick/derricklaw07.TtlNever", spec := "ttlNever", apart := false }
def TtlNeverSaid : Prop := ttlNeverRow.holds Try.pinned (OpenSpec.ofChange ttlNeverSpec)

/-- ITS FALSE NEIGHBOUR: 'it returns false'. Refute it at one input. -/
def ttlNeverWrong : ChangeSpec := { name := "ttlNever", fn := fun _ => fun
  | [d1, d2, d3, d4] => { results := [.lit (.bool false)], args := [d1, d2, d3, d4] }
  | _ => none }
def TtlNeverWrongFalsely : Prop := ttlNeverRow.holds Try.pinned (OpenSpec.ofChange ttlNeverWrong)

/-- 'derricklaw07.TtlClamps': WHATEVER THE INPUT: true; the input reads as it did. -/
def ttlClampsSpec : ChangeSpec := { name := "ttlClamps", fn := fun _ => fun
  | [d1, d2] => { results := [.lit (.bool true)], args := [d1, d2] }
  | _ => none }
def ttlClampsRow : OpenClaim := { program := "ytomhfjpjdgecpaa", sum := "34549ac3ecca46d5c85d6f322f791331d56348edbcacc641a9d64ef7d2cad70a", func := "derrick/derricklaw07.TtlClamps", spec := "ttlClamps", apart := false }
def TtlClampsSaid : Prop := ttlClampsRow.holds Try.pinned (OpenSpec.ofChange ttlClampsSpec)

/-- ITS FALSE NEIGHBOUR: 'it returns false'. Refute it at one input. -/
def ttlClampsWrong : ChangeSpec := { name := "ttlClamps", fn := fun _ => fun
  | [d1, d2] => { results := [.lit (.bool false)], args := [d1, d2] }
  | _ => none }
def TtlClampsWrongFalsely : Prop := ttlClampsRow.holds Try.pinned (OpenSpec.ofChange ttlClampsWrong)

/-- 'derricklaw07.TtlLeast': WHATEVER THE INPUT: true; the input reads as it did. -/
def ttlLeastSpec : ChangeSpec := { name := "ttlLeast", fn := fun _ => fun
  | [d1, d2] => { results := [.lit (.bool true)], args := [d1, d2] }
  | _ => none }
def ttlLeastRow : OpenClaim := { program := "ytomhfjpjdgecpaa", sum := "34549ac3ecca46d5c85d6f322f791331d56348edbcacc641a9d64ef7d2cad70a", func := "derrick/derricklaw07.TtlLeast", spec := "ttlLeast", apart := false }
def TtlLeastSaid : Prop := ttlLeastRow.holds Try.pinned (OpenSpec.ofChange ttlLeastSpec)

/-- ITS FALSE NEIGHBOUR: 'it returns false'. Refute it at one input. -/
def ttlLeastWrong : ChangeSpec := { name := "ttlLeast", fn := fun _ => fun
  | [d1, d2] => { results := [.lit (.bool false)], args := [d1, d2] }
  | _ => none }
def TtlLeastWrongFalsely : Prop := ttlLeastRow.holds Try.pinned (OpenSpec.ofChange ttlLeastWrong)

/- THE SECOND FORM. 'bulk': how many values and letters a reading holds, each counted each time it is reached (what is shared counts as often as it is met; a slice's spare places count too). A statement '..UptoSaid' is the law's where the arguments, and the package variables that the reading takes, are together of bulk at most 1048576: NARROWER than '..Said'. Prove '..Said' where nothing that the law and all that it calls make is longer than what came in: it says more and counts as full. Else prove '..UptoSaid'. A law counts once. -/
mutual
def uptoBulk {H : Type} : DataW H → Nat
  | .lit (.string bytes) => bytes.length + 1
  | .lit _ => 1
  | .nil => 1
  | .ptr d => uptoBulk d + 1
  | .slice elems spare => uptoBulkAll elems + uptoBulkAll spare + 1
  | .agg parts => uptoBulkAll parts + 1
  | .iface _ d => uptoBulk d + 1
  | .map entries => uptoBulkEntries entries + 1
  | .held _ => 1
def uptoBulkAll {H : Type} : List (DataW H) → Nat
  | [] => 0
  | d :: r => uptoBulk d + uptoBulkAll r
def uptoBulkEntries {H : Type} : List (Lit × DataW H) → Nat
  | [] => 0
  | x :: r => uptoBulkEntry x + uptoBulkEntries r
def uptoBulkEntry {H : Type} : Lit × DataW H → Nat
  | (.string bytes, d) => bytes.length + uptoBulk d + 1
  | (_, d) => uptoBulk d + 1
 end
def uptoSmall : (H : Type) → List (DataW H) → Bool := fun _ ds => decide (uptoBulkAll ds ≤ 1048576)
def OpenSpec.upto (s : _root_.Go.ChangeSpec) : _root_.Go.OpenSpec := { _root_.Go.OpenSpec.ofChange s with cond := some uptoSmall }

/-- 'derricklaw07.TtlTells', WHERE WHAT IT READS IS OF BULK AT MOST 1048576: true; the input reads as it did. -/
def ttlTellsUptoRow : OpenClaim := { program := "ytomhfjpjdgecpaa", sum := "34549ac3ecca46d5c85d6f322f791331d56348edbcacc641a9d64ef7d2cad70a", func := "derrick/derricklaw07.TtlTells", spec := "ttlTells", apart := false, narrowed := true }
def TtlTellsUptoSaid : Prop := ttlTellsUptoRow.holds Try.pinned (OpenSpec.upto ttlTellsSpec)

/-- 'derricklaw07.TtlLists', WHERE WHAT IT READS IS OF BULK AT MOST 1048576: true; the input reads as it did. -/
def ttlListsUptoRow : OpenClaim := { program := "ytomhfjpjdgecpaa", sum := "34549ac3ecca46d5c85d6f322f791331d56348edbcacc641a9d64ef7d2cad70a", func := "derrick/derricklaw07.TtlLists", spec := "ttlLists", apart := false, narrowed := true }
def TtlListsUptoSaid : Prop := ttlListsUptoRow.holds Try.pinned (OpenSpec.upto ttlListsSpec)

/-- 'derricklaw07.TtlFalls', WHERE WHAT IT READS IS OF BULK AT MOST 1048576: true; the input reads as it did. -/
def ttlFallsUptoRow : OpenClaim := { program := "ytomhfjpjdgecpaa", sum := "34549ac3ecca46d5c85d6f322f791331d56348edbcacc641a9d64ef7d2cad70a", func := "derrick/derricklaw07.TtlFalls", spec := "ttlFalls", apart := false, narrowed := true }
def TtlFallsUptoSaid : Prop := ttlFallsUptoRow.holds Try.pinned (OpenSpec.upto ttlFallsSpec)

/-- 'derricklaw07.TtlNever', WHERE WHAT IT READS IS OF BULK AT MOST 1048576: true; the input reads as it did. -/
def ttlNeverUptoRow : OpenClaim := { program := "ytomhfjpjdgecpaa", sum := "34549ac3ecca46d5c85d6f322f791331d56348edbcacc641a9d64ef7d2cad70a", func := "derrick/derricklaw07.TtlNever", spec := "ttlNever", apart := false, narrowed := true }
def TtlNeverUptoSaid : Prop := ttlNeverUptoRow.holds Try.pinned (OpenSpec.upto ttlNeverSpec)

/-- 'derricklaw07.TtlClamps', WHERE WHAT IT READS IS OF BULK AT MOST 1048576: true; the input reads as it did. -/
def ttlClampsUptoRow : OpenClaim := { program := "ytomhfjpjdgecpaa", sum := "34549ac3ecca46d5c85d6f322f791331d56348edbcacc641a9d64ef7d2cad70a", func := "derrick/derricklaw07.TtlClamps", spec := "ttlClamps", apart := false, narrowed := true }
def TtlClampsUptoSaid : Prop := ttlClampsUptoRow.holds Try.pinned (OpenSpec.upto ttlClampsSpec)

/-- 'derricklaw07.TtlLeast', WHERE WHAT IT READS IS OF BULK AT MOST 1048576: true; the input reads as it did. -/
def ttlLeastUptoRow : OpenClaim := { program := "ytomhfjpjdgecpaa", sum := "34549ac3ecca46d5c85d6f322f791331d56348edbcacc641a9d64ef7d2cad70a", func := "derrick/derricklaw07.TtlLeast", spec := "ttlLeast", apart := false, narrowed := true }
def TtlLeastUptoSaid : Prop := ttlLeastUptoRow.holds Try.pinned (OpenSpec.upto ttlLeastSpec)

end Rows
end Go.Proofs.Ytomhfjpjdgecpaa
