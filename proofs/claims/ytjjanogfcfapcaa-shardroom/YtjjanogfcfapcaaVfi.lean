/- What the frame of ShardRoom asks of the walk. -/
import Derived.Test.YtjjanogfcfapcaaVfb
namespace Go.Proofs.Ytjjanogfcfapcaa.D
open Go.RowKit
theorem room_law (A : Option Addr) (cap : Nat) (l : List Dd) (x : Ev) (now : Nat) (_ : now < 18446744073709551616) (w : World) (hL : Sl df w A cap l) (hA : ∀ D ∈ l, ArgD w D) (hx : Arg w x) : Calls Try.prog 4 #[.slice A l.length cap, evV x, .int .u64 (now : Nat)] w fun e w' => e = .returned (.bool true) ∧ Below w.heap.size w w' := by
  rw [evV_eq]
  exact room_any A cap l x now w hL hA hx
end Go.Proofs.Ytjjanogfcfapcaa.D
