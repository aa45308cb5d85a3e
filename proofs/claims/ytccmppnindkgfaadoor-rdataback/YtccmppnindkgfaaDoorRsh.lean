/- The contract of derricklaw04.shown: the document's example. -/
import Derived.Test.YtccmppnindkgfaaDoorRmn
import Derived.Test.YtccmppnindkgfaaDoorWsh
namespace Go.Proofs.YtccmppnindkgfaaDoor
open Go.RowKit
set_option linter.unusedVariables false

/-- The example's data. -/
def exD : ByteArray := ⟨#[0, 10, 2, 97, 98, 0]⟩
theorem exD_tail : exD.extract 2 exD.size = exM := by decide
theorem exD_may : mayD 15 exD = true := by
  unfold mayD
  rw [if_neg (by decide), if_neg (by decide), if_neg (by decide), if_pos rfl, exD_tail, exM_is.may.1]
  decide
theorem exD_not : mayD 1 exD = false := by rw [mayD_1]; decide
theorem exD_put : (ptS [] [] 15 exD).1 = [0, 10, 2, 97, 98, 0] := by
  rw [put_eq, if_pos exD_may]
  unfold putD
  rw [if_neg (by decide), if_pos rfl, exD_tail, exM_is.may.2]
  decide
theorem exD_err : ptE 15 exD = 0 := by unfold ptE; rw [may_eq, exD_may]; rfl
theorem exD_tgt : tgB 15 exD = true ∧ tgS 15 exD = exM := by
  have h : tgtD 15 exD = some exM := by unfold tgtD; rw [if_pos exD_may, if_neg (by decide), if_pos rfl, exD_tail]
  rw [(tgt_eq 15 exD).1, (tgt_eq 15 exD).2, h]
  exact ⟨rfl, rfl⟩

set_option maxRecDepth 100000 in
set_option maxHeartbeats 1000000 in
theorem rshown_any (w : World) (hL : Lay w) : Calls Tryd.prog 8 #[] w fun e w' => e = .returned (.bool true) ∧ Below w.heap.size w w' := by
  have HL := Lib.hid hL
  have H0 := Lib.hid (lay_lt hL)
  have HE := Lib.hid (And.intro exD_put (And.intro exD_err exD_tgt))
  have HM := Lib.hid (And.intro ((may_eq 15 exD).trans exD_may) ((may_eq 1 exD).trans exD_not))
  have e1 : exD.toList = [0, 10, 2, 97, 98, 0] := by rw [ByteArray.toList_eq]; rfl
  have e2 : (exM.toList == [2, 97, 98, 0]) = true := by rw [ByteArray.toList_eq]; decide
  clear hL
  go_enter Tryd.func8, Tryd.ntmps8
  go_wp2_with fail
  refine (new_any _).mono ?_
  rintro e w1 ⟨rfl, hP1, hb1⟩
  have HL1 := Lib.hid (HL.out.below H0.out hb1)
  go_wp2_with fail
  refine (rput_any _ _ [] [] 15 exD (by decide) (by simp) (by decide) _ HL1.out (St.new hP1) hb1.size).mono ?_
  rintro e w2 ⟨rfl, hs2, hb2, _⟩
  rw [HE.out.2.1]
  have HS2 := Lib.hid hs2.is
  have HB2 := Lib.hid (hb1.trans hb2)
  have HL2 := Lib.hid (HL.out.below H0.out HB2.out)
  clear hP1 hs2 hb1 hb2 HL1
  go_wp2_with fail
  refine (rtarget_any 15 exD (by decide) (by decide) _ HL2.out).mono ?_
  rintro e w3 ⟨rfl, hb3⟩
  rw [HE.out.2.2.1, HE.out.2.2.2]
  have HS3 := Lib.hid (HS2.out.below hb3)
  have HB3 := Lib.hid (HB2.out.trans (hb3.mono HB2.out.size))
  have HL3 := Lib.hid (HL.out.below H0.out HB3.out)
  clear hb3 HL2 HS2 HB2
  go_wp2_with fail
  refine (rmay_any 15 exD (by decide) (by decide) _ HL3.out).mono ?_
  rintro e w4 ⟨rfl, hb4⟩
  rw [HM.out.1]
  have HS4 := Lib.hid (HS3.out.below hb4)
  have HB4 := Lib.hid (HB3.out.trans (hb4.mono HB3.out.size))
  have HL4 := Lib.hid (HL.out.below H0.out HB4.out)
  clear hb4 HL3 HS3 HB3
  go_wp2_with fail
  refine (out_any _ _ _ _ _ HS4.out).mono ?_
  rintro e w5 ⟨rfl, rfl⟩
  rw [HE.out.1]
  go_wp2_with fail
  refine (rmay_any 1 exD (by decide) (by decide) _ HL4.out).mono ?_
  rintro e w5 ⟨rfl, hb5⟩
  rw [HM.out.2]
  have HB5 := Lib.hid (HB4.out.trans (hb5.mono HB4.out.size))
  clear hb5
  go_wp2_with fail
  go_ret
  exact ⟨rfl, HB5.out⟩
end Go.Proofs.YtccmppnindkgfaaDoor
