/- The contract of the document's answer for record data: derrickref04.Take, of some types. -/
import Derived.Test.YtnakljbginbenaaGreatDoorRfc
namespace Go.Proofs.YtnakljbginbenaaGreatDoor
open Go.RowKit
set_option linter.unusedVariables false

set_option maxRecDepth 100000 in
set_option maxHeartbeats 400000 in
theorem reftake_O (s : ByteArray) (P M k : Nat) (hN : ¬ (k = 2 ∨ k = 5 ∨ k = 12)) (h15 : k ≠ 15) (h6 : k ≠ 6) (hk : k < 65536) (hs : s.size ≤ 1500) (hpm : P + M ≤ s.size) (w : World) :
    Calls Tryz.prog 100 #[.string s, .int .i64 (P : Nat), .int .i64 (M : Nat), .int .u16 (k : Nat)] w fun e w' => e = .returned (.tuple #[.string (tdS s P M k), .int .i64 (tdE s P M k)]) ∧ Below w.heap.size w w' := by
  have hok : Oc.okS s P M := ⟨by omega, by omega, by omega⟩
  have e1 : Oc.se s P M = 0 := by unfold Oc.se; rw [if_pos hok]
  have e2 : Oc.so s P M = ((P + M : Nat) : Int) := by unfold Oc.so; rw [if_pos hok]; omega
  have e3 : Oc.sx s P M = s.extract P (P + M) := by unfold Oc.sx; rw [if_pos hok]; rfl
  have hNk : isN k = false := by unfold isN; simpa using hN
  have hd : (s.extract P (P + M)).data.toList = (s.data.toList.drop P).take M := by rw [extract_list, List.drop_take]; congr 1; omega
  have ht : tdO s P M k = if mayD k (s.extract P (P + M)) = true then some (s.extract P (P + M)).data.toList else none := by
    rw [tdO_eq (by omega), if_pos hpm, takeD_oth hNk h15 h6, ← hd, ba_mk]
  have HT := Lib.hid ht
  have HE := Lib.hid (And.intro e1 (And.intro e2 e3))
  have b3 : ((k : Int) == 2) = false := by simp; omega
  have b4 : ((k : Int) == 5) = false := by simp; omega
  have b5 : ((k : Int) == 12) = false := by simp; omega
  have b6 : ((k : Int) == 15) = false := by simp; omega
  have b7 : ((k : Int) == 6) = false := by simp; omega
  have hz : (s.extract P (P + M)).size ≤ 4194304 := by rw [ByteArray.size_extract]; omega
  clear ht e1 e2 e3 hok hNk hd hN h15 h6
  obtain ⟨E, hE⟩ : ∃ E, P + M = E := ⟨_, rfl⟩
  rw [hE] at HT HE hpm hz
  clear hE
  go_enter Tryz.func100, Tryz.ntmps100
  go_wp2_with fail
  refine (Oc.rsome_any s P M _ (by omega)).mono ?_
  rintro e w1 ⟨rfl, hb1⟩
  rw [HE.out.1, HE.out.2.1, HE.out.2.2]
  clear HE
  generalize s.extract P E = Sx at *
  go_wp2_with fail
  refine (refmay_any k Sx hz hk _).mono ?_
  rintro e w2 ⟨rfl, hb2⟩
  have HB := Lib.hid (bthen hb1 hb2)
  clear hb1 hb2
  cases hm : mayD k Sx with
  | true =>
    have hr := td_some (HT.out.trans (if_pos hm))
    rw [ba_mk] at hr
    have HR := Lib.hid hr
    clear hm hr
    go_wp2_with fail
    go_ret2
    exact ⟨by rw [HR.out.1, HR.out.2]; rfl, HB.out⟩
  | false =>
    have HR := Lib.hid (td_none (HT.out.trans (if_neg (by rw [hm]; decide))))
    clear hm
    go_wp2_with fail
    go_ret2
    exact ⟨by rw [HR.out.1, HR.out.2]; rfl, HB.out⟩
end Go.Proofs.YtnakljbginbenaaGreatDoor
