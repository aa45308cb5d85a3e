/- WheelOnce and WheelNobody, over the sort that they reach. -/
import Derived.Test.YtdhahienhlknoaaWvc
import Derived.Test.YtdhahienhlknoaaWvd
import Derived.Test.YtdhahienhlknoaaWvs
namespace Go.Proofs.Ytdhahienhlknoaa
open Go.RowKit
theorem readN : Try.prog.readableRec 43 = true := by kernel_rfl
theorem sizeN : 43 < Try.prog.types.size := by decide +kernel
theorem once_fin (k : Nat) (A : Option Addr) (cap : Nat) (l : List De) (now : Nat) (hk : k < 256) (hnow : now < 18446744073709551616) (w : World) (hA : Ds w A cap l) :
    Calls Try.prog 5 #[.int .u8 (k : Nat), .slice A l.length cap, .int .u64 (now : Nat)] w fun e w' => e = .returned (.bool true) ∧ Below w.heap.size w w' := once_walk sort200 k A cap l now hk hnow w hA
theorem nobody_fin (k : Nat) (A : Option Addr) (cap : Nat) (ids : List Int) (t : Nat) (hk : k < 256) (hwf : ∀ i ∈ ids, (Lit.int .i64 i).wf = true) (ht : t < 18446744073709551616) (w : World) (hA : NsI w A ids) :
    Calls Try.prog 6 #[.int .u8 (k : Nat), .slice A ids.length cap, .int .u64 (t : Nat)] w fun e w' => e = .returned (.bool true) ∧ Below w.heap.size w w' := nobody_walk sort200 k A cap ids t hk hwf ht w hA
end Go.Proofs.Ytdhahienhlknoaa
