/- The contract of derricklaw03.shown: the document's example. -/
import Derived.Test.YtlphbeaaeeohjaaDoorWpn
import Derived.Test.YtlphbeaaeeohjaaDoorWta
namespace Go.Proofs.YtlphbeaaeeohjaaDoor
open Go.RowKit
set_option linter.unusedVariables false

/-- The example's names. -/
def exN : ByteArray := ⟨#[3, 119, 119, 119, 2, 97, 98, 0]⟩
def exM : ByteArray := ⟨#[2, 97, 98, 0]⟩
def exL : Kn := [([3, 119, 119, 119, 2, 97, 98, 0], 0), ([2, 97, 98, 0], 4)]
theorem exN_is : NameIs exN [[119, 119, 119], [97, 98]] := ⟨by unfold okLb; decide, by decide, by decide, by decide⟩
theorem exM_is : NameIs exM [[97, 98]] := ⟨by unfold okLb; decide, by decide, by decide, by decide⟩
theorem ex_put1 : put [] [] (labs exN) = ([3, 119, 119, 119, 2, 97, 98, 0], exL) := by rw [exN_is.may.2]; decide
theorem ex_put2 : put [3, 119, 119, 119, 2, 97, 98, 0] exL (labs exM) = ([3, 119, 119, 119, 2, 97, 98, 0, 192, 4], exL) := by rw [exM_is.may.2]; decide
theorem ex_take : tkS ⟨#[3, 119, 119, 119, 2, 97, 98, 0, 192, 4]⟩ 8 = exM ∧ tkX ⟨#[3, 119, 119, 119, 2, 97, 98, 0, 192, 4]⟩ 8 = 10 ∧ tkE ⟨#[3, 119, 119, 119, 2, 97, 98, 0, 192, 4]⟩ 8 = 0 := by
  obtain ⟨W1, a1, _, _, g1, _⟩ := put_good (Good.nil []) (labs exN) (by rw [exN_is.may.2]; exact exN_is.ok)
  rw [ex_put1] at a1 g1
  have a1' : [3, 119, 119, 119, 2, 97, 98, 0] = [] ++ W1 := a1
  rw [← a1'] at g1
  obtain ⟨W2, a2, _, _, _, g2⟩ := put_good g1 (labs exM) (by rw [exM_is.may.2]; exact exM_is.ok)
  have h := g2 ⟨#[3, 119, 119, 119, 2, 97, 98, 0, 192, 4]⟩ [] (by rw [← a2]; show _ = (put [3, 119, 119, 119, 2, 97, 98, 0] exL (labs exM)).1 ++ []; rw [ex_put2]; rfl)
  rw [← a2] at h
  have h3 : tkB ⟨#[3, 119, 119, 119, 2, 97, 98, 0, 192, 4]⟩ 8 8 = some (wire (labs exM), 10) := by
    refine h.trans ?_
    show some (wire (labs exM), (put [3, 119, 119, 119, 2, 97, 98, 0] exL (labs exM)).1.length) = _
    rw [ex_put2]
    rfl
  exact tk_name exM_is.may.1 h3

end Go.Proofs.YtlphbeaaeeohjaaDoor
