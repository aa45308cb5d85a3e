/- The contract of the document's answer for record data: derrickref04.Take. -/
import Derived.Test.YtnakljbginbenaaGreatDoorRfb
import Derived.Test.YtnakljbginbenaaGreatDoorBrd
namespace Go.Proofs.YtnakljbginbenaaGreatDoor
open Go.RowKit
set_option linter.unusedVariables false

theorem may_nil (k : Nat) (hN : isN k = true) : mayD k ⟨#[]⟩ = false := by
  have h1 : k ≠ 1 := by unfold isN at hN; simp at hN; omega
  have h28 : k ≠ 28 := by unfold isN at hN; simp at hN; omega
  unfold mayD
  rw [if_neg h1, if_neg h28, if_pos hN]
  have : mayB ⟨#[]⟩ = false := by
    cases h : mayB ⟨#[]⟩ with
    | false => rfl
    | true =>
      have hn := may_name h
      have := wire_len_pos (labs ⟨#[]⟩)
      rw [← hn.eq] at this
      simp at this
  rw [this]
  rfl

set_option maxRecDepth 100000 in
set_option maxHeartbeats 4000000 in
theorem reftake_N (s : ByteArray) (P M k : Nat) (hN : k = 2 ∨ k = 5 ∨ k = 12) (hs : s.size ≤ 1500) (hpm : P + M ≤ s.size) (w : World) :
    Calls Tryz.prog 100 #[.string s, .int .i64 (P : Nat), .int .i64 (M : Nat), .int .u16 (k : Nat)] w fun e w' => e = .returned (.tuple #[.string (tdS s P M k), .int .i64 (tdE s P M k)]) ∧ Below w.heap.size w w' := by
  have hNk : isN k = true := by unfold isN; simpa using hN
  have hok : Oc.okS s P M := ⟨by omega, by omega, by omega⟩
  have e1 : Oc.se s P M = 0 := by unfold Oc.se; rw [if_pos hok]
  have e2 : Oc.so s P M = ((P + M : Nat) : Int) := by unfold Oc.so; rw [if_pos hok]; omega
  have ht : tdO s P M k = (nm1 s P).bind fun r => if r.2 = P + M then some r.1 else none := by
    rw [tdO_eq (by omega), if_pos hpm]
    unfold takeD
    rw [if_pos hNk]
  have HT := Lib.hid ht
  have HE := Lib.hid (And.intro e1 e2)
  have HNk := Lib.hid (And.intro hNk (show k < 65536 by omega))
  clear ht e1 e2 hok hNk
  obtain ⟨E, hE⟩ : ∃ E, P + M = E := ⟨_, rfl⟩
  rw [hE] at HT HE hpm
  have hPE : P ≤ E := by omega
  rcases hN with hk | hk | hk
  all_goals
    subst hk
    go_enter Tryz.func100, Tryz.ntmps100
    go_wp2_with fail
    refine (Oc.rsome_any s P M _ (by omega)).mono ?_
    rintro e w1 ⟨rfl, hb1⟩
    rw [HE.out.1, HE.out.2]
    generalize Oc.sx s P M = Sx
    go_wp2_with fail
    refine (rnames1_any s P E hs (by omega) (by omega) _).mono ?_
    rintro e w2 ⟨rfl, hb2⟩
    have HB := Lib.hid (bthen hb1 hb2)
    clear hb1 hb2
    cases hn : nm1 s P with
    | none =>
      have hns : ns1 s P E = none := by unfold ns1; rw [hn]; rfl
      rw [hns]
      have HR := Lib.hid (td_none (HT.out.trans (by rw [hn]; rfl)))
      have x1 : nsS none = ⟨#[]⟩ := rfl
      have x2 : nsX none = 0 := rfl
      rw [x1, x2]
      clear hn hns x1 x2
      by_cases hz : E = 0
      · rw [hz]
        go_wp2_with fail
        refine (refmay_any _ ⟨#[]⟩ (Nat.zero_le _) HNk.out.2 _).mono ?_
        rintro e w3 ⟨rfl, hb3⟩
        rw [may_nil _ HNk.out.1]
        go_wp2_with fail
        go_ret2
        exact ⟨by rw [HR.out.1, HR.out.2]; rfl, bthen HB.out hb3⟩
      · have hz2 : ((0 : Int) == (E : Int)) = false := by simp; omega
        go_wp2_with fail
        go_ret2
        exact ⟨by rw [HR.out.1, HR.out.2]; rfl, HB.out⟩
    | some r =>
      obtain ⟨hmay, _, hr2, hr1, _⟩ := nm1_is hn
      by_cases hle : r.2 ≤ E
      · have hns : ns1 s P E = some r := by unfold ns1; rw [hn, Option.bind_some, if_pos hle]
        rw [hns]
        have x1 : nsS (some r) = ⟨r.1.toArray⟩ := rfl
        have x2 : nsX (some r) = r.2 := rfl
        rw [x1, x2]
        by_cases heq : r.2 = E
        · have hsome : tdO s P M _ = some r.1 := HT.out.trans (by rw [hn, Option.bind_some, if_pos heq])
          have HR := Lib.hid (td_some hsome)
          have HM := Lib.hid (td_may (by omega) hsome).1
          rw [heq]
          have hz : (⟨r.1.toArray⟩ : ByteArray).size ≤ 4194304 := by rw [mk_size]; omega
          clear hn hns x1 x2 heq hle hmay hsome
          generalize (⟨r.1.toArray⟩ : ByteArray) = R at *
          go_wp2_with fail
          refine (refmay_any _ R hz HNk.out.2 _).mono ?_
          rintro e w3 ⟨rfl, hb3⟩
          rw [HM.out]
          go_wp2_with fail
          go_ret2
          exact ⟨by rw [HR.out.1, HR.out.2]; rfl, bthen HB.out hb3⟩
        · have HR := Lib.hid (td_none (HT.out.trans (by rw [hn, Option.bind_some, if_neg heq])))
          have b1 : ((r.2 : Int) == (E : Int)) = false := by simp; omega
          clear hn hns x1 x2 hle hmay
          generalize (⟨r.1.toArray⟩ : ByteArray) = R at *
          generalize r.2 = X at *
          go_wp2_with fail
          go_ret2
          exact ⟨by rw [HR.out.1, HR.out.2]; rfl, HB.out⟩
      · have hns : ns1 s P E = none := by unfold ns1; rw [hn, Option.bind_some, if_neg hle]
        rw [hns]
        have HR := Lib.hid (td_none (HT.out.trans (by rw [hn, Option.bind_some, if_neg (by omega)])))
        have x1 : nsS none = ⟨#[]⟩ := rfl
        have x2 : nsX none = 0 := rfl
        rw [x1, x2]
        clear hn hns x1 x2 hmay hr1
        by_cases hz : E = 0
        · rw [hz]
          go_wp2_with fail
          refine (refmay_any _ ⟨#[]⟩ (Nat.zero_le _) HNk.out.2 _).mono ?_
          rintro e w3 ⟨rfl, hb3⟩
          rw [may_nil _ HNk.out.1]
          go_wp2_with fail
          go_ret2
          exact ⟨by rw [HR.out.1, HR.out.2]; rfl, bthen HB.out hb3⟩
        · have hz2 : ((0 : Int) == (E : Int)) = false := by simp; omega
          go_wp2_with fail
          go_ret2
          exact ⟨by rw [HR.out.1, HR.out.2]; rfl, HB.out⟩
end Go.Proofs.YtnakljbginbenaaGreatDoor
