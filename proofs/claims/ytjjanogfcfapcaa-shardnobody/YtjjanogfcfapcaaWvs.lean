/- The sort of 200 ids: what Due asks of it is so. -/
import Derived.Test.YtjjanogfcfapcaaWqi
import Derived.Test.YtjjanogfcfapcaaWql
namespace Go.Proofs.Ytjjanogfcfapcaa.W
open Go.RowKit Go.Shelf Go.Sort
open Go.Proofs (SW Row1 ltOf)
set_option linter.unusedVariables false
theorem pdq_all : PdqAll := fun cf g blk off n w0 d0 HC R h0 hn hO cap limit d w hs S hl =>
  pdq_s HC R h0 hn hO cap (n + 1) 0 n limit d w (by omega) hs S (Nat.zero_le _) (Nat.le_refl _) hl (Or.inl rfl)
theorem sort200 : SortC 200 := sortC_any pdq_all 200 (by omega)
end Go.Proofs.Ytjjanogfcfapcaa.W
