/- What the frame of ShardDue asks of the walk. -/
import Derived.Test.YtjjanogfcfapcaaVeb
namespace Go.Proofs.Ytjjanogfcfapcaa.D
open Go.RowKit
theorem due_law (A : Option Addr) (cap : Nat) (l : List Dd) (now : Nat) (_ : now < 18446744073709551616) (w : World) (hL : Sl df w A cap l) (hA : ∀ D ∈ l, ArgD w D) : Calls Try.prog 7 #[.slice A l.length cap, .int .u64 (now : Nat)] w fun e w' => e = .returned (.bool true) ∧ Below w.heap.size w w' := due_any A cap l now w hL hA
end Go.Proofs.Ytjjanogfcfapcaa.D
