/- The contract of derricklaw03.shown: the document's example. -/
import Derived.Test.YtcfbcamhbffchaaWpn
import Derived.Test.YtcfbcamhbffchaaWta
namespace Go.Proofs.Ytcfbcamhbffchaa
open Go.RowKit
set_option linter.unusedVariables false

/-- The example's names. -/
def exN : ByteArray := ⟨#[3, 119, 119, 119, 2, 97, 98, 0]⟩
def exM : ByteArray := ⟨#[2, 97, 98, 0]⟩
def exL : Kn := [([3, 119, 119, 119, 2, 97, 98, 0], 0), ([2, 97, 98, 0], 4)]
theorem exN_is : NameIs exN [[119, 119, 119], [97, 98]] := ⟨by unfold okLb; decide, by decide, by decide, by decide⟩
theorem exM_is : NameIs exM [[97, 98]] := ⟨by unfold okLb; decide, by decide, by decide, by decide⟩
theorem ex_put1 : put [] [] (labs exN) = ([3, 119, 119, 119, 2, 97, 98, 0], exL) := by rw [exN_is.may.2]; decide
theorem ex_put2 : put [3, 119, 119, 119, 2, 97, 98, 0] exL (labs exM) = ([3, 119, 119, 119, 2, 97, 98, 0, 192, 4], exL) := by rw [exM_is.may.2]; decide
theorem ex_take : tkS ⟨#[3, 119, 119, 119, 2, 97, 98, 0, 192, 4]⟩ 8 = exM ∧ tkX ⟨#[3, 119, 119, 119, 2, 97, 98, 0, 192, 4]⟩ 8 = 10 ∧ tkE ⟨#[3, 119, 119, 119, 2, 97, 98, 0, 192, 4]⟩ 8 = 0 := by
  obtain ⟨W1, a1, _, _, g1, _⟩ := put_good (Good.nil []) (labs exN) (by rw [exN_is.may.2]; exact exN_is.ok)
  rw [ex_put1] at a1 g1
  have a1' : [3, 119, 119, 119, 2, 97, 98, 0] = [] ++ W1 := a1
  rw [← a1'] at g1
  obtain ⟨W2, a2, _, _, _, g2⟩ := put_good g1 (labs exM) (by rw [exM_is.may.2]; exact exM_is.ok)
  have h := g2 ⟨#[3, 119, 119, 119, 2, 97, 98, 0, 192, 4]⟩ [] (by rw [← a2]; show _ = (put [3, 119, 119, 119, 2, 97, 98, 0] exL (labs exM)).1 ++ []; rw [ex_put2]; rfl)
  rw [← a2] at h
  have h3 : tkB ⟨#[3, 119, 119, 119, 2, 97, 98, 0, 192, 4]⟩ 8 8 = some (wire (labs exM), 10) := by
    refine h.trans ?_
    show some (wire (labs exM), (put [3, 119, 119, 119, 2, 97, 98, 0] exL (labs exM)).1.length) = _
    rw [ex_put2]
    rfl
  exact tk_name exM_is.may.1 h3

set_option maxRecDepth 100000 in
set_option maxHeartbeats 1000000 in
theorem shown_any (w : World) : Calls Try.prog 10 #[] w fun e w' => e = .returned (.bool true) ∧ Below w.heap.size w w' := by
  have hm1 := exN_is.may.1
  have hm2 := exM_is.may.1
  obtain ⟨t1, t2, t3⟩ := ex_take
  have HM1 := Lib.hid hm1
  have HM2 := Lib.hid hm2
  have HT := Lib.hid (And.intro t1 (And.intro t2 t3))
  clear hm1 hm2 t1 t2 t3
  go_enter Try.func10, Try.ntmps10
  go_wp2_with fail
  refine (new_any _).mono ?_
  rintro e w1 ⟨rfl, hP1, hb1⟩
  go_wp2_with fail
  refine (name_yes _ _ [] [] exN _ hP1 ⟨(fun p hp => by cases hp), Nat.le_refl _⟩ hb1.size (by simp) HM1.out).mono ?_
  rintro e w2 ⟨rfl, hP2, hb2, _⟩
  have hbel2 := hb1.trans hb2
  rw [ex_put1] at hP2
  clear hP1
  go_wp2_with fail
  refine (name_yes _ _ [3, 119, 119, 119, 2, 97, 98, 0] exL exM _ hP2 ⟨by decide, by decide⟩ hbel2.size (by decide) HM2.out).mono ?_
  rintro e w3 ⟨rfl, hP3, hb3, _⟩
  have hbel3 := hbel2.trans hb3
  rw [ex_put2] at hP3
  clear hP2 hb1 hb2 hb3 hbel2
  go_wp2_with fail
  refine (out_any _ _ _ _ _ hP3).mono ?_
  rintro e w4 ⟨rfl, rfl⟩
  go_wp2_with fail
  refine (take_any ⟨#[3, 119, 119, 119, 2, 97, 98, 0, 192, 4]⟩ 8 (by decide) (by decide) _).mono ?_
  rintro e w4 ⟨rfl, hb4⟩
  rw [HT.out.1, HT.out.2.1, HT.out.2.2]
  have hP4 := hP3.below hb4
  have hbel4 := hbel3.trans (hb4.mono hbel3.size)
  clear hP3 hb4 hbel3
  go_wp2_with fail
  refine (out_any _ _ _ _ _ hP4).mono ?_
  rintro e w5 ⟨rfl, rfl⟩
  go_wp2_with fail
  refine (len_any _ _ _ _ _ hP4).mono ?_
  rintro e w5 ⟨rfl, rfl⟩
  have e1 : (exM.toList == [2, 97, 98, 0]) = true := by rw [ByteArray.toList_eq]; decide
  go_wp2_with fail
  go_ret
  exact ⟨rfl, hbel4⟩
end Go.Proofs.Ytcfbcamhbffchaa
