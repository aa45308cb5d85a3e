/- The contract of derricklaw04.few: 60 texts of 700 bytes at most. -/
import Derived.Test.YtccmppnindkgfaaDoorWst
namespace Go.Proofs.YtccmppnindkgfaaDoor
open Go.RowKit
set_option linter.unusedVariables false

def okT (p : ByteArray) : Bool := decide (p.size ≤ 700)
def fewT (l : List ByteArray) : Bool := (l.take 61).all okT && decide (l.length ≤ 60)
theorem fewT_yes {l : List ByteArray} (h : fewT l = true) : l.length ≤ 60 ∧ ∀ p ∈ l, p.size ≤ 700 := by
  unfold fewT at h
  rw [Bool.and_eq_true, decide_eq_true_iff] at h
  refine ⟨h.2, fun p hp => ?_⟩
  rw [List.take_of_length_le (by omega)] at h
  simpa [okT] using List.all_eq_true.1 h.1 p hp

set_option maxRecDepth 100000 in
set_option maxHeartbeats 1000000 in
theorem fewT_any (A : Option Addr) (cap : Nat) (l : List ByteArray) (w : World) (hS : Strs w A l) (hl : l.length ≤ 140737488355328) :
    Calls Tryd.prog 19 #[.slice A l.length cap] w fun e w' => e = .returned (.bool (fewT l)) ∧ w = w' := by
  go_enter Tryd.func19, Tryd.ntmps19
  go_wp2_with fail
  go_loop [3] (fun i => ∃ k : Nat, k ≤ l.length ∧ k ≤ 61 ∧ i = .int .i64 k ∧ (l.take k).all okT = true) (fun i => l.length - (intOf i).toNat)
  case atStart => exact ⟨0, Nat.zero_le _, by omega, rfl, rfl⟩
  case round =>
    obtain ⟨k, hk, hk61, rfl, hok⟩ := hrel
    have HO := Lib.hid hok
    clear hok
    by_cases hlt : k < l.length
    · by_cases h61 : k < 61
      · obtain ⟨ad, rfl, hb, hc⟩ := hS k hlt
        have hnext : (l.take (k + 1)).all okT = okT l[k] := by
          rw [List.take_succ_eq_append_getElem hlt, List.all_append, HO.out]
          simp
        by_cases h4 : l[k].size ≤ 700
        · have h5 : okT l[k] = true := by simpa [okT] using h4
          have HN := Lib.hid (hnext.trans h5)
          have b1 : decide (700 < (l[k].size : Int)) = false := by simp; omega
          generalize l[k] = q at *
          clear hnext h5
          go_wp2_with fail
          go_round
          case rel => exact ⟨k + 1, hlt, by omega, by go_num, HN.out⟩
          case measure => simp [intOf]; omega
        · have h5 : okT l[k] = false := by simp [okT]; omega
          have hf : fewT l = false := by
            unfold fewT
            have h6 : (l.take 61).all okT = false := by
              have h7 : l[k] ∈ l.take 61 := by
                rw [List.mem_take_iff_getElem]
                exact ⟨k, by omega, rfl⟩
              cases h8 : (l.take 61).all okT with
              | false => rfl
              | true => rw [List.all_eq_true.1 h8 _ h7] at h5; cases h5
            rw [h6]; rfl
          have HF := Lib.hid hf
          have b1 : decide (700 < (l[k].size : Int)) = true := by simp; omega
          generalize l[k] = q at *
          clear hnext h5 hf
          go_wp2_with fail
          go_ret
          exact ⟨by rw [HF.out]; rfl, rfl⟩
      · have hf : fewT l = false := by unfold fewT; rw [show decide (l.length ≤ 60) = false by simp; omega]; simp
        have HF := Lib.hid hf
        have d1 : decide (k < l.length) = true := by simpa using hlt
        have d2 : decide ((k : Int) < 61) = false := by simp; omega
        have d3 : decide (l.length ≤ 60) = false := by simp; omega
        have d4 : decide ((l.length : Int) ≤ 60) = false := by simp; omega
        clear hf
        go_wp2_with fail
        go_ret
        exact ⟨by rw [HF.out]; rfl, rfl⟩
    · have hall : l.take k = l := List.take_of_length_le (by omega)
      have hf : fewT l = decide (l.length ≤ 60) := by
        have h1 := HO.out
        rw [hall] at h1
        unfold fewT
        have : (l.take 61).all okT = true := by
          rw [List.all_eq_true]
          exact fun x hx => List.all_eq_true.1 h1 x (List.mem_of_mem_take hx)
        rw [this]; rfl
      have HF := Lib.hid hf
      have d1 : decide (k < l.length) = false := by simpa using hlt
      clear hf hall
      by_cases h60 : l.length ≤ 60
      · have d3 : decide (l.length ≤ 60) = true := by simpa using h60
        have d4 : decide ((l.length : Int) ≤ 60) = true := by simp; omega
        have HD := Lib.hid d3
        go_wp2_with fail
        go_ret
        exact ⟨by rw [HF.out, HD.out]; rfl, rfl⟩
      · have d3 : decide (l.length ≤ 60) = false := by simpa using h60
        have d4 : decide ((l.length : Int) ≤ 60) = false := by simp; omega
        have HD := Lib.hid d3
        go_wp2_with fail
        go_ret
        exact ⟨by rw [HF.out, HD.out]; rfl, rfl⟩
end Go.Proofs.YtccmppnindkgfaaDoor
