/- The contract of the document's answer for record data: derrickref04.Take, of some types. -/
import Derived.Test.YtnakljbginbenaaGreatDoorRfc
namespace Go.Proofs.YtnakljbginbenaaGreatDoor
open Go.RowKit
set_option linter.unusedVariables false

set_option maxRecDepth 100000 in
set_option maxHeartbeats 400000 in
theorem reftake_M (s : ByteArray) (P M : Nat) (hs : s.size ≤ 1500) (hpm : P + M ≤ s.size) (w : World) :
    Calls Tryz.prog 100 #[.string s, .int .i64 (P : Nat), .int .i64 (M : Nat), .int .u16 15] w fun e w' => e = .returned (.tuple #[.string (tdS s P M 15), .int .i64 (tdE s P M 15)]) ∧ Below w.heap.size w w' := by
  have hok : Oc.okS s P M := ⟨by omega, by omega, by omega⟩
  have e1 : Oc.se s P M = 0 := by unfold Oc.se; rw [if_pos hok]
  have e2 : Oc.so s P M = ((P + M : Nat) : Int) := by unfold Oc.so; rw [if_pos hok]; omega
  have e3 : Oc.sx s P M = s.extract P (P + M) := by unfold Oc.sx; rw [if_pos hok]; rfl
  have ht : tdO s P M 15 = if M < 3 then none else (nm1 s (P + 2)).bind fun r => if r.2 = P + M then some ((s.data.toList.drop P).take 2 ++ r.1) else none := by
    rw [tdO_eq (by omega), if_pos hpm]
    unfold takeD
    rw [if_neg (by decide), if_pos rfl]
  have HT := Lib.hid ht
  have HE := Lib.hid (And.intro e1 (And.intro e2 e3))
  clear ht e1 e2 e3 hok
  obtain ⟨E, hE⟩ : ∃ E, P + M = E := ⟨_, rfl⟩
  rw [hE] at HT HE hpm
  have hPE : P ≤ E := by omega
  by_cases hm3 : M < 3
  · have HR := Lib.hid (td_none (HT.out.trans (if_pos hm3)))
    have d1 : decide ((M : Int) < 3) = true := by simp; omega
    go_enter Tryz.func100, Tryz.ntmps100
    go_wp2_with fail
    refine (Oc.rsome_any s P M _ (by omega)).mono ?_
    rintro e w1 ⟨rfl, hb1⟩
    rw [HE.out.1, HE.out.2.1]
    generalize Oc.sx s P M = Sx
    go_wp2_with fail
    go_ret2
    exact ⟨by rw [HR.out.1, HR.out.2]; rfl, hb1⟩
  · have hT := HT.out
    rw [if_neg hm3] at hT
    have d1 : decide ((M : Int) < 3) = false := by simp; omega
    have hsxz : (s.extract P E).size = M := by rw [ByteArray.size_extract]; omega
    have h2l : ((s.extract P E).extract 0 2).data.toList = (s.data.toList.drop P).take 2 := by
      rw [ext_list, extract_list, List.drop_take, List.take_take, show min 2 (E - P) = 2 by omega]
    have hsl := sl_to (s.extract P E) 2 (by omega)
    have h2z : ((s.extract P E).extract 0 2).size = 2 := by rw [ByteArray.size_extract]; omega
    have HL2 := Lib.hid h2l
    have hcall := fun w' => rnames1_any s (P + 2) E hs (by omega) (by omega) w'
    rw [show ((P + 2 : Nat) : Int) = (P : Int) + 2 by omega] at hcall
    have HCall := Lib.hid hcall
    clear hcall h2l HT
    go_enter Tryz.func100, Tryz.ntmps100
    go_wp2_with fail
    refine (Oc.rsome_any s P M _ (by omega)).mono ?_
    rintro e w1 ⟨rfl, hb1⟩
    rw [HE.out.1, HE.out.2.1, HE.out.2.2]
    generalize s.extract P E = Sx at *
    go_wp2_with fail
    refine (HCall.out _).mono ?_
    rintro e w2 ⟨rfl, hb2⟩
    have HB := Lib.hid (bthen hb1 hb2)
    clear hb1 hb2
    have hz2 : ((0 : Int) == (E : Int)) = false := by simp; omega
    have hz3 : ¬ 0 = E := by omega
    have hcat0 : ¬ 9223372036854775807 < (Sx.extract 0 2).size + (⟨#[]⟩ : ByteArray).size := by show ¬ 9223372036854775807 < (Sx.extract 0 2).size + 0; omega
    cases hn : nm1 s (P + 2) with
    | none =>
      have hns : ns1 s (P + 2) E = none := by unfold ns1; rw [hn]; rfl
      rw [hns]
      have HR := Lib.hid (td_none (hT.trans (by rw [hn]; rfl)))
      have x1 : nsS none = ⟨#[]⟩ := rfl
      have x2 : nsX none = 0 := rfl
      rw [x1, x2]
      clear hn hns x1 x2 hT
      go_wp2_with fail
      go_ret2
      exact ⟨by rw [HR.out.1, HR.out.2]; rfl, HB.out⟩
    | some r =>
      obtain ⟨hmay, _, hr2, hr1, _⟩ := nm1_is hn
      by_cases hle : r.2 ≤ E
      · have hns : ns1 s (P + 2) E = some r := by unfold ns1; rw [hn, Option.bind_some, if_pos hle]
        rw [hns]
        have x1 : nsS (some r) = ⟨r.1.toArray⟩ := rfl
        have x2 : nsX (some r) = r.2 := rfl
        rw [x1, x2]
        have hzr : (⟨r.1.toArray⟩ : ByteArray).size ≤ 255 := by rw [mk_size]; exact hr1
        have hcat : ¬ 9223372036854775807 < (Sx.extract 0 2).size + (⟨r.1.toArray⟩ : ByteArray).size := by omega
        by_cases heq : r.2 = E
        · have hsome : tdO s P M 15 = some ((s.data.toList.drop P).take 2 ++ r.1) := hT.trans (by rw [hn, Option.bind_some, if_pos heq])
          have hR : (Sx.extract 0 2) ++ ⟨r.1.toArray⟩ = (⟨((s.data.toList.drop P).take 2 ++ r.1).toArray⟩ : ByteArray) := by apply ba_ext; rw [← HL2.out]; simp
          have hs2 := td_some hsome
          have hm2 := (td_may (by omega) hsome).1
          rw [← hR] at hs2 hm2
          have hz : ((Sx.extract 0 2) ++ ⟨r.1.toArray⟩).size ≤ 4194304 := by rw [ByteArray.size_append]; omega
          have HR := Lib.hid hs2
          have HM := Lib.hid hm2
          have HZ := Lib.hid hz
          rw [heq]
          clear hn hns x1 x2 heq hle hmay hsome hR hs2 hm2 hz hT
          generalize (⟨r.1.toArray⟩ : ByteArray) = R at *
          go_wp2_with fail
          refine (refmay_any 15 ((Sx.extract 0 2) ++ R) HZ.out (by decide) _).mono ?_
          rintro e w3 ⟨rfl, hb3⟩
          rw [HM.out]
          go_wp2_with fail
          go_ret2
          exact ⟨by rw [HR.out.1, HR.out.2]; rfl, bthen HB.out hb3⟩
        · have HR := Lib.hid (td_none (hT.trans (by rw [hn, Option.bind_some, if_neg heq])))
          have b1 : ((r.2 : Int) == (E : Int)) = false := by simp; omega
          clear hn hns x1 x2 hle hmay hT
          generalize (⟨r.1.toArray⟩ : ByteArray) = R at *
          generalize r.2 = X at *
          go_wp2_with fail
          go_ret2
          exact ⟨by rw [HR.out.1, HR.out.2]; rfl, HB.out⟩
      · have hns : ns1 s (P + 2) E = none := by unfold ns1; rw [hn, Option.bind_some, if_neg hle]
        rw [hns]
        have HR := Lib.hid (td_none (hT.trans (by rw [hn, Option.bind_some, if_neg (by omega)])))
        have x1 : nsS none = ⟨#[]⟩ := rfl
        have x2 : nsX none = 0 := rfl
        rw [x1, x2]
        clear hn hns x1 x2 hmay hr1 hT
        go_wp2_with fail
        go_ret2
        exact ⟨by rw [HR.out.1, HR.out.2]; rfl, HB.out⟩
end Go.Proofs.YtnakljbginbenaaGreatDoor
