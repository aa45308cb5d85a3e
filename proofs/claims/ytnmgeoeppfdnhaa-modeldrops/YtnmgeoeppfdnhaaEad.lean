/- The questions' reading under another letter, for the frames. -/
import Derived.Test.YtnmgeoeppfdnhaaBqa
namespace Go.Proofs.Ytnmgeoeppfdnhaa
theorem readp : Try.prog.readableRec 25 = true := readq
theorem sizep : 25 < Try.prog.types.size := sizeq
end Go.Proofs.Ytnmgeoeppfdnhaa
