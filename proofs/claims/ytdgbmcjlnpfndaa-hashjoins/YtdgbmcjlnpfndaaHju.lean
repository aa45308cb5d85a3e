/- The walk of derricklaw09.HashJoins, all cases. -/
import Derived.Test.YtdgbmcjlnpfndaaHjt
namespace Go.Proofs.Ytdgbmcjlnpfndaa
open Go.RowKit
set_option linter.unusedVariables false

set_option maxHeartbeats 1000000 in
theorem joins_walk (A : Option Addr) (cap : Nat) (l : List Rc) (A2 : Option Addr) (cap2 : Nat) (l2 : List Rc) (k : Nat) (ho : ∀ r ∈ l, r.Ok) (hl : l.length ≤ 9223372036854775807) (ho2 : ∀ r ∈ l2, r.Ok) (hl2 : l2.length ≤ 9223372036854775807) (hk : k < 256) (W : World) (hI : Sl qf W A cap l) (hJ : Sl qf W A2 cap2 l2) :
    Calls Try.prog 7 #[.slice A l.length cap, .slice A2 l2.length cap2, .int .u8 (k : Nat)] W fun e w' => e = .returned (.bool true) ∧ Below W.heap.size W w' := by
  have HS := Lib.hid (fun w => shown_any w)
  have HW := Lib.hid (few_any A cap l hl W hI)
  cases hf : fewQ l with
  | true =>
    cases hf2 : fewQ l2 with
    | true => exact joins_core A cap l A2 cap2 l2 k _ hk rfl ho ho2 hf hf2 W hI hJ
    | false =>
      have HW2 := Lib.hid (few_any A2 cap2 l2 hl2 W hJ)
      rw [hf] at HW
      rw [hf2] at HW2
      clear hI hJ hf hf2 ho ho2
      go_enter Try.func7, Try.ntmps7
      go_wp2_with (first
        | (go_at_call 8; with_reducible (refine (HS.out _).mono ?_); rintro e w1 ⟨rfl, rfl⟩)
        | (go_at_call 9; with_reducible (refine HW.out.mono ?_); rintro e w1 ⟨rfl, rfl⟩)
        | (go_at_call 9; with_reducible (refine HW2.out.mono ?_); rintro e w1 ⟨rfl, rfl⟩))
      go_ret
      exact ⟨rfl, Below.refl _ _⟩
  | false =>
    rw [hf] at HW
    clear hI hJ hf ho ho2
    go_enter Try.func7, Try.ntmps7
    go_wp2_with (first
      | (go_at_call 8; with_reducible (refine (HS.out _).mono ?_); rintro e w1 ⟨rfl, rfl⟩)
      | (go_at_call 9; with_reducible (refine HW.out.mono ?_); rintro e w1 ⟨rfl, rfl⟩))
    go_ret
    exact ⟨rfl, Below.refl _ _⟩
end Go.Proofs.Ytdgbmcjlnpfndaa
