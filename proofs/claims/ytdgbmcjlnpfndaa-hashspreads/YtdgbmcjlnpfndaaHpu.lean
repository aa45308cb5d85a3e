/- The walk of derricklaw09.HashSpreads, all cases. -/
import Derived.Test.YtdgbmcjlnpfndaaHpt
namespace Go.Proofs.Ytdgbmcjlnpfndaa
open Go.RowKit
set_option linter.unusedVariables false

set_option maxHeartbeats 1000000 in
theorem spreads_walk (A : Option Addr) (cap : Nat) (l : List Rc) (k : Nat) (ho : ∀ r ∈ l, r.Ok) (hl : l.length ≤ 9223372036854775807) (hk : k < 256) (W : World) (hI : Sl qf W A cap l) :
    Calls Try.prog 4 #[.slice A l.length cap, .int .u8 (k : Nat)] W fun e w' => e = .returned (.bool true) ∧ Below W.heap.size W w' := by
  cases hf : fewQ l with
  | true => exact spreads_core A cap l k _ hk rfl ho hf W hI
  | false =>
    have HS := Lib.hid (fun w => shown_any w)
    have HW := Lib.hid (few_any A cap l hl W hI)
    rw [hf] at HW
    clear hI hf ho
    go_enter Try.func4, Try.ntmps4
    go_wp2_with (first
      | (go_at_call 8; with_reducible (refine (HS.out _).mono ?_); rintro e w1 ⟨rfl, rfl⟩)
      | (go_at_call 9; with_reducible (refine HW.out.mono ?_); rintro e w1 ⟨rfl, rfl⟩))
    go_ret
    exact ⟨rfl, Below.refl _ _⟩
end Go.Proofs.Ytdgbmcjlnpfndaa
