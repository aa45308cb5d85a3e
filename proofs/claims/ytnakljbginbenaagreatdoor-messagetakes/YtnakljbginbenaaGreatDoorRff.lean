/- The contract of the document's answer for record data: derrickref04.Take, of some types. -/
import Derived.Test.YtnakljbginbenaaGreatDoorRfc
namespace Go.Proofs.YtnakljbginbenaaGreatDoor
open Go.RowKit
set_option linter.unusedVariables false

set_option maxRecDepth 100000 in
set_option maxHeartbeats 400000 in
theorem reftake_S (s : ByteArray) (P M : Nat) (hs : s.size ≤ 1500) (hpm : P + M ≤ s.size) (w : World) :
    Calls Tryz.prog 100 #[.string s, .int .i64 (P : Nat), .int .i64 (M : Nat), .int .u16 6] w fun e w' => e = .returned (.tuple #[.string (tdS s P M 6), .int .i64 (tdE s P M 6)]) ∧ Below w.heap.size w w' := by
  have hok : Oc.okS s P M := ⟨by omega, by omega, by omega⟩
  have e1 : Oc.se s P M = 0 := by unfold Oc.se; rw [if_pos hok]
  have e2 : Oc.so s P M = ((P + M : Nat) : Int) := by unfold Oc.so; rw [if_pos hok]; omega
  have ht : tdO s P M 6 = (ns2 s P (P + M)).bind fun q => if P + M - q.2 = 20 then some (q.1 ++ (s.data.toList.drop q.2).take 20) else none := by
    rw [tdO_eq (by omega), if_pos hpm]
    unfold takeD
    rw [if_neg (by decide), if_neg (by decide), if_pos rfl]
    unfold ns2 ns1
    cases nm1 s P with
    | none => rfl
    | some r =>
      simp only [Option.bind_some]
      by_cases h1 : r.2 ≤ P + M
      · rw [if_pos h1, if_pos h1]
        simp only [Option.bind_some]
        cases nm1 s r.2 with
        | none => rfl
        | some q =>
          simp only [Option.bind_some]
          by_cases h2 : q.2 ≤ P + M
          · rw [if_pos h2, Option.map_some, Option.bind_some]
            simp only [h2, true_and]
          · rw [if_neg h2, if_neg (fun x => h2 x.1)]
            rfl
      · rw [if_neg h1, if_neg h1]
        rfl
  have HT := Lib.hid ht
  have HE := Lib.hid (And.intro e1 e2)
  clear ht e1 e2 hok
  obtain ⟨E, hE⟩ : ∃ E, P + M = E := ⟨_, rfl⟩
  rw [hE] at HT HE hpm
  have hPE : P ≤ E := by omega
  go_enter Tryz.func100, Tryz.ntmps100
  go_wp2_with fail
  refine (Oc.rsome_any s P M _ (by omega)).mono ?_
  rintro e w1 ⟨rfl, hb1⟩
  rw [HE.out.1, HE.out.2]
  generalize Oc.sx s P M = Sx
  go_wp2_with fail
  refine (rnames2_any s P E hs (by omega) (by omega) _).mono ?_
  rintro e w2 ⟨rfl, hb2⟩
  have HB := Lib.hid (bthen hb1 hb2)
  clear hb1 hb2
  cases hn : ns2 s P E with
  | none =>
    have HR := Lib.hid (td_none (HT.out.trans (by rw [hn]; rfl)))
    have x1 : nsS none = ⟨#[]⟩ := rfl
    have x2 : nsX none = 0 := rfl
    rw [x1, x2]
    clear hn x1 x2
    go_wp2_with fail
    go_ret2
    exact ⟨by rw [HR.out.1, HR.out.2]; rfl, HB.out⟩
  | some q =>
    have hq : 0 < q.2 ∧ q.2 ≤ E ∧ q.1.length ≤ 510 := by
      unfold ns2 ns1 at hn
      rw [Option.bind_eq_some_iff] at hn
      obtain ⟨r, hr, h2⟩ := hn
      rw [Option.map_eq_some_iff] at h2
      obtain ⟨q', hq', rfl⟩ := h2
      rw [Option.bind_eq_some_iff] at hq' hr
      obtain ⟨q2, g1, g2⟩ := hq'
      obtain ⟨r2, g3, g4⟩ := hr
      split at g2
      · split at g4
        · cases g2
          cases g4
          have a := nm1_is g1
          have b := nm1_is g3
          refine ⟨by simp only; omega, by assumption, ?_⟩
          simp only [List.length_append]
          omega
        · cases g4
      · cases g2
    have x1 : nsS (some q) = ⟨q.1.toArray⟩ := rfl
    have x2 : nsX (some q) = q.2 := rfl
    rw [x1, x2]
    obtain ⟨hq0, hqE, hql⟩ := hq
    have b0 : ((q.2 : Int) == 0) = false := by simp; omega
    have b1 : decide (E < q.2) = false := by simp; omega
    have b1n : ¬ E < q.2 := by omega
    by_cases h20 : E - q.2 = 20
    · have hsome : tdO s P M 6 = some (q.1 ++ (s.data.toList.drop q.2).take 20) := HT.out.trans (by rw [hn, Option.bind_some, if_pos h20])
      have hx : (s.extract q.2 E).data.toList = (s.data.toList.drop q.2).take 20 := by rw [extract_list, List.drop_take, h20]
      have hR : (⟨q.1.toArray⟩ : ByteArray) ++ s.extract q.2 E = ⟨(q.1 ++ (s.data.toList.drop q.2).take 20).toArray⟩ := by apply ba_ext; rw [← hx]; simp
      have hs2 := td_some hsome
      have hm2 := (td_may (by omega) hsome).1
      rw [← hR] at hs2 hm2
      have hsl := slice_mid s q.2 E hqE hpm
      have hxz : (s.extract q.2 E).size = 20 := by rw [ByteArray.size_extract]; omega
      have hqz : (⟨q.1.toArray⟩ : ByteArray).size ≤ 510 := by rw [mk_size]; exact hql
      have hcat : ¬ 9223372036854775807 < (⟨q.1.toArray⟩ : ByteArray).size + (s.extract q.2 E).size := by omega
      have hz : ((⟨q.1.toArray⟩ : ByteArray) ++ s.extract q.2 E).size ≤ 4194304 := by rw [ByteArray.size_append]; omega
      have b2 : ((E : Int) - (q.2 : Int) == 20) = true := by simp; omega
      have b3 : (E : Int) - (q.2 : Int) = 20 := by omega
      have HR := Lib.hid hs2
      have HM := Lib.hid hm2
      have HZ := Lib.hid hz
      clear hn x1 x2 hsome hx hR hs2 hm2 hz
      generalize s.extract q.2 E = T at *
      generalize (⟨q.1.toArray⟩ : ByteArray) = R at *
      generalize q.2 = X at *
      go_wp2_with fail
      refine (refmay_any 6 (R ++ T) HZ.out (by decide) _).mono ?_
      rintro e w3 ⟨rfl, hb3⟩
      rw [HM.out]
      go_wp2_with fail
      go_ret2
      exact ⟨by rw [HR.out.1, HR.out.2]; rfl, bthen HB.out hb3⟩
    · have HR := Lib.hid (td_none (HT.out.trans (by rw [hn, Option.bind_some, if_neg h20])))
      have b2 : ((E : Int) - (q.2 : Int) == 20) = false := by simp; omega
      have b3 : ¬ (E : Int) - (q.2 : Int) = 20 := by omega
      clear hn x1 x2
      generalize (⟨q.1.toArray⟩ : ByteArray) = R at *
      generalize q.2 = X at *
      go_wp2_with fail
      go_ret2
      exact ⟨by rw [HR.out.1, HR.out.2]; rfl, HB.out⟩
end Go.Proofs.YtnakljbginbenaaGreatDoor
