/- derrickref09.Ints at what is the same, negative numbers too. Made ahead for stage 11. -/
import Derived.Test.YtdhahienhlknoaaWhc
namespace Go.Proofs.Ytdhahienhlknoaa
open Go.RowKit
set_option linter.unusedVariables false

set_option maxRecDepth 100000 in
set_option maxHeartbeats 1000000 in
theorem ints_yesI (A : Option Addr) (cap : Nat) (A2 : Option Addr) (cap2 : Nat) (l : List Int) (hl : l.length ≤ 1000) (w : World) (hI : NsI w A l) (hJ : NsI w A2 l) :
    Calls Try.prog 18 #[.slice A l.length cap, .slice A2 l.length cap2] w fun e w' => e = .returned (.bool true) ∧ Below w.heap.size w w' := by
  have HI := Lib.hid hI
  have HJ := Lib.hid hJ
  clear hI hJ
  go_enter Try.func18, Try.ntmps18
  go_wp2_with fail
  go_loopw [5] (fun i wr => ∃ j : Nat, j ≤ l.length ∧ i = .int .i64 j ∧ Below w.heap.size w wr) (fun i _ => l.length - (intOf i).toNat)
  case atStart => exact ⟨0, Nat.zero_le _, rfl, Below.refl _ _⟩
  case round =>
    obtain ⟨j, hj, rfl, hbel⟩ := hrel
    by_cases hlt : j < l.length
    · obtain ⟨b, off, rfl, _, c0⟩ := (HI.out.below hbel) j hlt
      obtain ⟨b', off', rfl, _, d0⟩ := (HJ.out.below hbel) j hlt
      have HB := Lib.hid hbel
      clear hbel
      generalize l[j] = r at *
      go_upto_region 6 with (fail)
      first | (go_region_with (fail)) | fail
      all_goals
        go_wp2_with fail
        go_roundw
        case rel => exact ⟨j + 1, hlt, by go_num, HB.out.drew⟩
        case measure => simp [intOf]; omega
    · obtain rfl : j = l.length := by omega
      have HB := Lib.hid hbel
      clear hbel
      go_wp2_with fail
      go_ret
      exact ⟨rfl, HB.out⟩
end Go.Proofs.Ytdhahienhlknoaa
