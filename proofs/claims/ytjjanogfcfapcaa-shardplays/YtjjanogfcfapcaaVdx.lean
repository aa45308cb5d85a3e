/- What the frames of the laws ask of the walks. -/
import Derived.Test.YtjjanogfcfapcaaVdw
namespace Go.Proofs.Ytjjanogfcfapcaa.D
open Go.RowKit
theorem plays_law (zr zs : Int) (A : Option Addr) (cap : Nat) (l : List Dd) {p q : Prop} (_ : p) (_ : q) (w : World) (hL : Sl df w A cap l) (hA : ∀ D ∈ l, ArgD w D) : Calls Try.prog 3 #[.int .i64 zr, .int .i64 zs, .slice A l.length cap] w fun e w' => e = .returned (.bool true) ∧ Below w.heap.size w w' := plays_any zr zs A cap l w hL hA
end Go.Proofs.Ytjjanogfcfapcaa.D
