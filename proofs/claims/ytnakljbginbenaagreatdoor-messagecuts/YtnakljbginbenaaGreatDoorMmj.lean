/- The contract of message's first. -/
import Derived.Test.YtnakljbginbenaaGreatDoorMmi
namespace Go.Proofs.YtnakljbginbenaaGreatDoor
open Go.RowKit
set_option linter.unusedVariables false

set_option maxRecDepth 100000 in
set_option maxHeartbeats 1000000 in
theorem first_any (A : Option Addr) (cap : Nat) (l : List Rc) (j : Nat) (hl : l.length ≤ 6000) (hj : j ≤ 100000) (w : World) (hI : Sl rf w A cap l) :
    Calls Tryz.prog 45 #[.slice A l.length cap, .int .i64 j] w fun e w' => ∃ A' cap', e = .returned (.tuple #[.slice A' (l.take j).length cap', .int .i64 ((j - l.length : Nat) : Int)]) ∧ Sl rf w' A' cap' (l.take j) ∧ Below w.heap.size w w' ∧ ∀ a, A' = some a → w.heap.size ≤ a.block := by
  have hle := hI.le
  have ht := hI.take j
  have htl : (l.take j).length = min j l.length := List.length_take
  have HK := Lib.hid (fun w' hI' => cloneR_any A cap (l.take j) (by omega) w' hI')
  obtain ⟨h, hh⟩ : ∃ h, h = min j l.length := ⟨_, rfl⟩
  rw [htl, ← hh] at HK
  have hmin : min (j : Int) (l.length : Int) = (h : Int) := by omega
  have hh1 : h ≤ cap := by omega
  have hh2 : h ≤ j := by omega
  have hsub : (j : Int) - (h : Int) = ((j - l.length : Nat) : Int) := by omega
  have HT := Lib.hid ht
  have HTl := Lib.hid (htl.trans hh.symm)
  have HSub := Lib.hid hsub
  clear ht htl hI hsub hh
  go_enter Tryz.func45, Tryz.ntmps45
  go_wp2_with fail
  refine (HK.out _ HT.out).mono ?_
  rintro e w1 ⟨A', cap', rfl, hS, hb, hfr⟩
  have HF := Lib.hid (And.intro hS (And.intro hb hfr))
  clear hS hb hfr
  go_wp2_with fail
  go_ret2
  refine ⟨A', cap', ?_, HF.out.1, HF.out.2.1, HF.out.2.2⟩
  rw [HTl.out, ← HSub.out]
  rfl
end Go.Proofs.YtnakljbginbenaaGreatDoor
