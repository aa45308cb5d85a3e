/- The walk of derricklaw03.WireName: it returns true, whatever the arguments. -/
import Derived.Test.YtlphbeaaeeohjaaDoorWsh
namespace Go.Proofs.YtlphbeaaeeohjaaDoor
open Go.RowKit
set_option linter.unusedVariables false

theorem take_self {n : ByteArray} (s : ByteArray) (hm : mayB n = true) : tkS (n ++ s) 0 = n ∧ tkX (n ++ s) 0 = n.size ∧ tkE (n ++ s) 0 = 0 := by
  have hn := may_name hm
  have hd : (n ++ s).data.toList.drop 0 = wire (labs n) ++ s.data.toList := by rw [List.drop_zero, ← hn.eq]; simp
  have h := tkB_wire (b := 0) (labs n) 0 _ hn.ok hd
  have hl : 0 + (wire (labs n)).length = n.size := by rw [← hn.eq, ba_len]; omega
  rw [hl] at h
  exact tk_name (p := 0) hm h
theorem empty_is (s : ByteArray) (h : s = ⟨#[]⟩) : (s.toList == []) = true ∧ s.toList.isEmpty = true := by subst h; rw [ByteArray.toList_eq]; exact ⟨rfl, rfl⟩
theorem self_is (s : ByteArray) : (s.toList == s.toList) = true := by simp

end Go.Proofs.YtlphbeaaeeohjaaDoor
