/- WheelSizes, over the sort that it reaches. -/
import Derived.Test.YtdhahienhlknoaaWvf
import Derived.Test.YtdhahienhlknoaaWvs
namespace Go.Proofs.Ytdhahienhlknoaa
open Go.RowKit
theorem sizes_fin (k1 k2 : Nat) (A : Option Addr) (cap : Nat) (l : List De) (hk1 : k1 < 256) (hk2 : k2 < 256) (w : World) (hA : Ds w A cap l) :
    Calls Try.prog 4 #[.int .u8 (k1 : Nat), .int .u8 (k2 : Nat), .slice A l.length cap] w fun e w' => e = .returned (.bool true) ∧ Below w.heap.size w w' := sizes_walk sort200 k1 k2 A cap l hk1 hk2 w hA
end Go.Proofs.Ytdhahienhlknoaa
