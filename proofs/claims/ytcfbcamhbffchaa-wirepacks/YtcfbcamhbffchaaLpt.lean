/- A slice of parts (derricklaw03.Part) that comes in as an argument; the contract of derricklaw03.few. -/
import Derived.Test.YtcfbcamhbffchaaWsh
import Derived.Deep.SlicePairs
import Derived.Carry
namespace Go.Proofs.Ytcfbcamhbffchaa
open Go.RowKit
set_option linter.unusedVariables false

/-- A slice's parts: each a string, and whether it is raw. -/
def Parts (w : World) (A : Option Addr) (ps : List (ByteArray × Bool)) : Prop :=
  ∀ j (h : j < ps.length), ∃ b off : Nat, A = some ⟨b, off, none⟩ ∧ b < w.heap.size ∧ w.cell? ⟨b, off + j * 2, none⟩ = some (.string ps[j].1) ∧ w.cell? ⟨b, off + j * 2 + 1, none⟩ = some (.bool ps[j].2)
theorem Parts.below {w w' : World} {A : Option Addr} {ps : List (ByteArray × Bool)} (h : Parts w A ps) (hb : Below w.heap.size w w') : Parts w' A ps := fun j hj => by
  obtain ⟨b, off, h1, h2, h3, h4⟩ := h j hj
  exact ⟨b, off, h1, Nat.lt_of_lt_of_le h2 hb.size, (hb.cell (by exact h2)).trans h3, (hb.cell (by exact h2)).trans h4⟩

def okP (p : ByteArray × Bool) : Bool := decide (p.1.size ≤ 400)
def fewB (ps : List (ByteArray × Bool)) : Bool := (ps.take 41).all okP && decide (ps.length ≤ 40)
theorem few_yes {ps : List (ByteArray × Bool)} (h : fewB ps = true) : ps.length ≤ 40 ∧ ∀ p ∈ ps, p.1.size ≤ 400 := by
  unfold fewB at h
  rw [Bool.and_eq_true, decide_eq_true_iff] at h
  refine ⟨h.2, fun p hp => ?_⟩
  rw [List.take_of_length_le (by omega)] at h
  simpa [okP] using List.all_eq_true.1 h.1 p hp

set_option maxRecDepth 100000 in
set_option maxHeartbeats 1000000 in
theorem few_any (A : Option Addr) (cap : Nat) (ps : List (ByteArray × Bool)) (w : World) (hP : Parts w A ps) (hl : ps.length ≤ 9223372036854775807) (hsz : ∀ p ∈ ps, p.1.size ≤ 9223372036854775807) :
    Calls Try.prog 11 #[.slice A ps.length cap] w fun e w' => e = .returned (.bool (fewB ps)) ∧ w = w' := by
  have HS := Lib.hid hsz
  clear hsz
  go_enter Try.func11, Try.ntmps11
  go_wp2_with fail
  go_loop [3] (fun i => ∃ k : Nat, k ≤ ps.length ∧ k ≤ 41 ∧ i = .int .i64 k ∧ (ps.take k).all okP = true) (fun i => ps.length - (intOf i).toNat)
  case atStart => exact ⟨0, Nat.zero_le _, by omega, rfl, rfl⟩
  case round =>
    obtain ⟨k, hk, hk41, rfl, hok⟩ := hrel
    have HO := Lib.hid hok
    clear hok
    by_cases hlt : k < ps.length
    · by_cases h41 : k < 41
      · obtain ⟨ab, ao, rfl, hb, hc, _⟩ := hP k hlt
        have hs := HS.out ps[k] (List.getElem_mem hlt)
        have hnext : (ps.take (k + 1)).all okP = okP ps[k] := by
          rw [List.take_succ_eq_append_getElem hlt, List.all_append, HO.out]
          simp
        by_cases h4 : ps[k].1.size ≤ 400
        · have h5 : okP ps[k] = true := by simpa [okP] using h4
          have HN := Lib.hid (hnext.trans h5)
          have b1 : decide (400 < (ps[k].1.size : Int)) = false := by simp; omega
          generalize ps[k] = q at *
          clear hnext h5
          go_wp2_with fail
          go_round
          case rel => exact ⟨k + 1, hlt, by omega, by go_num, HN.out⟩
          case measure => simp [intOf]; omega
        · have h5 : okP ps[k] = false := by simp [okP]; omega
          have hf : fewB ps = false := by
            unfold fewB
            have h6 : (ps.take 41).all okP = false := by
              have h7 : ps[k] ∈ ps.take 41 := by
                rw [List.mem_take_iff_getElem]
                exact ⟨k, by omega, rfl⟩
              cases h8 : (ps.take 41).all okP with
              | false => rfl
              | true => rw [List.all_eq_true.1 h8 _ h7] at h5; cases h5
            rw [h6]; rfl
          have HF := Lib.hid hf
          have b1 : decide (400 < (ps[k].1.size : Int)) = true := by simp; omega
          generalize ps[k] = q at *
          clear hnext h5 hf
          go_wp2_with fail
          go_ret
          exact ⟨by rw [HF.out]; rfl, rfl⟩
      · have hf : fewB ps = false := by
          unfold fewB
          rw [show decide (ps.length ≤ 40) = false by simp; omega]
          simp
        have HF := Lib.hid hf
        have b1 : decide ((ps.length : Int) ≤ 40) = false := by simp; omega
        have b2 : decide ((k : Int) < 41) = false := by simp; omega
        clear hf
        go_wp2_with fail
        go_ret
        exact ⟨by rw [HF.out]; rfl, rfl⟩
    · have hf : fewB ps = decide (ps.length ≤ 40) := by
        unfold fewB
        have : ps.take 41 = ps.take k ∨ 40 < ps.length := by
          by_cases h : ps.length ≤ 40
          · left
            rw [List.take_of_length_le (by omega), List.take_of_length_le (by omega)]
          · right; omega
        rcases this with h | h
        · rw [h, HO.out]; rfl
        · rw [show decide (ps.length ≤ 40) = false by simp; omega]; simp
      have HF := Lib.hid hf
      clear hf
      have b0 : decide ((k : Int) < (ps.length : Int)) = false := by simp; omega
      by_cases h40 : ps.length ≤ 40
      · have b1 : decide ((ps.length : Int) ≤ 40) = true := by simp; omega
        go_wp2_with fail
        go_ret
        exact ⟨by rw [HF.out]; simp; omega, rfl⟩
      · have b1 : decide ((ps.length : Int) ≤ 40) = false := by simp; omega
        go_wp2_with fail
        go_ret
        exact ⟨by rw [HF.out]; simp; omega, rfl⟩

end Go.Proofs.Ytcfbcamhbffchaa
