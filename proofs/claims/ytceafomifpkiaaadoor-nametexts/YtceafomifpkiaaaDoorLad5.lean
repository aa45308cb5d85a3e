/- What the listed package-level variables hold when a call begins: the table of powers of ten, and two errors of the library's. -/
import Derived.Test.YtceafomifpkiaaaDoorLad3
import Derived.Test.YtceafomifpkiaaaDoorNmq
namespace Go.Proofs.YtceafomifpkiaaaDoor
open Go.ChangeShapes Go.WideShapes Go.ChangeAt Go.RowKit

theorem gBad : Tryd.prog.globalNamed "strconv.ErrSyntax" = some 2 := by kernel_rfl
theorem gFar : Tryd.prog.globalNamed "strconv.ErrRange" = some 3 := by kernel_rfl
theorem tBad : (Tryd.prog.globals[2]?).map (·.type) = some 56 := by kernel_rfl
theorem tFar : (Tryd.prog.globals[3]?).map (·.type) = some 56 := by kernel_rfl
theorem c117 : Tryd.prog.cellsOf 117 = 1 := by kernel_rfl
theorem c9 : Tryd.prog.cellsOf 9 = 1 := by kernel_rfl
theorem starErr : "*" ++ "errors.errorString" = "*errors.errorString" := by decide
theorem row115 (u : TypeId) (h : Tryd.prog.typeName? 3 u = some "*errors.errorString") : u = 115 :=
  typeName_ptr_named (nm := "errors.errorString") (by rw [starErr]; kernel_rfl) (by kernel_rfl) (by decide) u (by rw [starErr]; exact h)
theorem door_met5 (os : Os) (args : Array Value) : laidMetH Tryd.prog Rows.nameBackRow.laid ((World.doorLaid Tryd.prog 400 os).forCall (fun _ _ => 0) ⟨#[], args, []⟩).memory :=
  laidMetH_of_parts3 (fuel := 8) (laidMet_of_run' 8 (by kernel_rfl) (by kernel_rfl)) (by kernel_rfl) (by kernel_rfl)
theorem glob_of {W : World} (h : laidMetH Tryd.prog Rows.nameBackRow.laid W) : Glob W := by
  rw [MakeChecks.laidMetH_plain _ _ _ (by kernel_rfl)] at h
  have h3 := h.tail.tail
  obtain ⟨a0, s0, hv0, _⟩ := laid_sentinel h3.tail gFar tFar Tryd.underlying56 row115 Tryd.underlying115 Tryd.underlying117 rfl rfl Tryd.underlying9 c117 c9
  obtain ⟨a1, s1, hv1, _⟩ := laid_sentinel h3.tail.tail gBad tBad Tryd.underlying56 row115 Tryd.underlying115 Tryd.underlying117 rfl rfl Tryd.underlying9 c117 c9
  exact ⟨Lib.tabIs_of_head (zs := Lib.pow10Tab) (k := .u64) gPow tPow Tryd.underlying101 (by kernel_rfl) (by kernel_rfl) cPow h3, ⟨_, _, hv1⟩, ⟨_, _, hv0⟩⟩
end Go.Proofs.YtceafomifpkiaaaDoor
