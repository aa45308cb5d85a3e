/- Contract of derricklaw01.shown: it returns true. -/
import Derived.Test.YtpgcklncengljaaOctd
namespace Go.Proofs.Ytpgcklncengljaa
open Go.RowKit
set_option linter.unusedVariables false

theorem ex_num : bnum (ByteArray.extract ⟨#[120, 1, 2]⟩ (1 : Int).toNat ((1 : Int) + 2).toNat) = 258 := by decide +kernel
theorem ex_put : bytesOf 258 2 = [1, 2] := by decide +kernel
theorem u16_ex (w : World) : Calls Try.prog 11 #[.string ⟨#[120, 1, 2]⟩, .int .i64 1] w fun e w' => e = .returned (.tuple #[.int .u16 258, .int .i64 3, .int .i64 0]) ∧ Below w.heap.size w w' := by
  have h := u16_yes ⟨#[120, 1, 2]⟩ 1 w (by decide +kernel) (by decide) (by decide)
  rw [ex_num] at h
  exact h
theorem put_ex (w : World) : Calls Try.prog 17 #[.int .u16 258] w fun e w' => e = .returned (.string ⟨#[1, 2]⟩) ∧ Below w.heap.size w w' := by
  have h := Put16 258 w (by decide) (by decide)
  rw [ex_put] at h
  exact h

set_option maxHeartbeats 400000 in
theorem shown_any (w : World) : Calls Try.prog 8 #[] w fun e w' => e = .returned (.bool true) ∧ Below w.heap.size w w' := by
  go_enter Try.func8, Try.ntmps8
  go_wp2_with (first
    | (go_at_call 11; refine (u16_ex _).mono ?_; rintro e w1 ⟨rfl, hb1⟩)
    | (go_at_call 17; refine (put_ex _).mono ?_; rintro e w2 ⟨rfl, hb2⟩))
  go_ret
  exact ⟨rfl, hb1.trans (hb2.mono hb1.size)⟩

end Go.Proofs.Ytpgcklncengljaa
