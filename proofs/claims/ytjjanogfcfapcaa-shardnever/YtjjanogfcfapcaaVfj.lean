/- What the frame of ShardNever asks of the walk. -/
import Derived.Test.YtjjanogfcfapcaaVeh
namespace Go.Proofs.Ytjjanogfcfapcaa
theorem readF : Try.prog.readableRec 39 = true := readE
theorem sizeF : 39 < Try.prog.types.size := sizeE
end Go.Proofs.Ytjjanogfcfapcaa
namespace Go.Proofs.Ytjjanogfcfapcaa.D
open Go.RowKit
theorem never_law (A : Option Addr) (cap : Nat) (l : List Dd) (x y : Ev) (now : Nat) (_ : now < 18446744073709551616) (w : World) (hL : Sl df w A cap l) (hA : ∀ D ∈ l, ArgD w D) (hx : Arg w x) (hy : Arg w y) : Calls Try.prog 5 #[.slice A l.length cap, evV x, evV y, .int .u64 (now : Nat)] w fun e w' => e = .returned (.bool true) ∧ Below w.heap.size w w' := by
  rw [evV_eq, evV_eq]
  by_cases h : x.e.ex ≤ now
  · exact never_a A cap l x y now h w hL hA hx hy
  · exact never_b A cap l x y now (by omega) w hL hA hx hy
end Go.Proofs.Ytjjanogfcfapcaa.D
