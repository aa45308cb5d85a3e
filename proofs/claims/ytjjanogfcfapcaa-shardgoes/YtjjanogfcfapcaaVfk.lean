/- What the frame of ShardGoes asks of the walk. -/
import Derived.Test.YtjjanogfcfapcaaVfe
import Derived.Test.YtjjanogfcfapcaaVff
import Derived.Test.YtjjanogfcfapcaaVfg
import Derived.Test.YtjjanogfcfapcaaVfh
namespace Go.Proofs.Ytjjanogfcfapcaa.D
open Go.RowKit
theorem goes_law (A : Option Addr) (cap : Nat) (l : List Dd) (D : Dd) (q : Qu) (hq : q.Fine) (w : World) (hL : Sl df w A cap l) (hA : ∀ D ∈ l, ArgD w D) (hD : ArgD w D) : Calls Try.prog 6 #[.slice A l.length cap, .agg (df D).toArray, qV q] w fun e w' => e = .returned (.bool true) ∧ Below w.heap.size w w' := by
  unfold qV
  by_cases h0 : D.k = 0
  · exact goes_k0 A cap l D q h0 w hL hA hD hq
  · by_cases h1 : D.k = 1
    · exact goes_k1 A cap l D q h1 w hL hA hD hq
    · by_cases h2 : D.k = 2
      · exact goes_k2 A cap l D q h2 w hL hA hD hq
      · exact goes_k3 A cap l D q h0 h1 h2 w hL hA hD hq
end Go.Proofs.Ytjjanogfcfapcaa.D
