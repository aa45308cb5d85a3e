/- The contract of derrickref11.Set. Made ahead for stage 11 at a practice seat. -/
import Derived.Test.YtjjanogfcfapcaaWhc
import Derived.StillTailTactics
namespace Go.Proofs.Ytjjanogfcfapcaa.W
open Go.RowKit
set_option linter.unusedVariables false

theorem ins_at : ∀ {l : List Ti} {x : Ti} {j : Nat}, j ≤ l.length → (∀ y ∈ l.take j, ltT y x) → (∀ h : j < l.length, ¬ ltT l[j] x) → insL l x = l.take j ++ x :: l.drop j
  | [], x, j, hj, _, _ => by
    have : j = 0 := by simpa using hj
    subst this
    rfl
  | y :: l, x, 0, _, _, h => by
    have := h (by simp)
    simp only [List.getElem_cons_zero] at this
    rw [insL_cons, if_neg this]
    rfl
  | y :: l, x, j + 1, hj, ha, h => by
    rw [insL_cons, if_pos (ha y (by simp)), ins_at (l := l) (x := x) (j := j) (by simpa using hj) (fun z hz => ha z (by rw [List.take_succ_cons]; exact List.mem_cons_of_mem _ hz)) (fun hlt => h (by simpa using hlt))]
    rfl
end Go.Proofs.Ytjjanogfcfapcaa.W
