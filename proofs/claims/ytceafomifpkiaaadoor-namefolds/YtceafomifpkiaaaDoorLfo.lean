/- The walk of derricklaw02.NameFolds: it returns true, whatever the argument. -/
import Derived.Test.YtceafomifpkiaaaDoorNmo
namespace Go.Proofs.YtceafomifpkiaaaDoor
open Go.RowKit
set_option linter.unusedVariables false

theorem below_drewN {B : Nat} {a w : World} (h : Below B a w) (n : Nat) : Below B a (w.drewN n) := ⟨h.os, h.tape, h.output, h.size, h.block⟩
theorem foldB_at (s : ByteArray) (k : Nat) (h : k < s.size) (h' : k < (foldB s).size) : (foldB s)[k] = low s[k] := by
  have e1 : (foldB s)[k] = (foldB s).data.toList[k]'(by rw [ba_len]; exact h') := by rfl
  have e2 : s[k] = s.data.toList[k]'(by rw [ba_len]; exact h) := by rfl
  rw [e1, e2]
  simp [foldB]
theorem foldB_foldB (s : ByteArray) : foldB (foldB s) = foldB s := by
  apply ba_ext
  rw [foldB_list, foldB_list, List.map_map]
  congr 1
  funext c
  exact low_low c
theorem low_nat (c : UInt8) : (low c).toNat = if 65 ≤ c.toNat ∧ c.toNat ≤ 90 then c.toNat + 32 else c.toNat := by
  unfold low
  split
  · rename_i h
    rw [UInt8.toNat_add]; simp; omega
  · rfl

set_option maxRecDepth 100000 in
set_option maxHeartbeats 2000000 in
theorem folds_walk (s : ByteArray) (hs : s.size ≤ 140737488355328) (w : World) (ht : Tab w) :
    Calls Tryd.prog 9 #[.string s] w fun e w' => e = .returned (.bool true) ∧ Below w.heap.size w w' := by
  by_cases hbig : 1000 < s.size
  · go_enter Tryd.func9, Tryd.ntmps9
    go_wp2_with fail
    refine (shown_any _ ht).mono ?_; rintro e w1 ⟨rfl, hb1⟩
    go_wp2_with fail
    go_ret
    exact ⟨rfl, hb1⟩
  obtain ⟨f, hf⟩ : ∃ f, foldB s = f := ⟨_, rfl⟩
  have hfs : f.size = s.size := by rw [← hf]; exact foldB_size s
  have hff : (foldB f).toList = f.toList := by rw [← hf, foldB_foldB]
  have hat : ∀ k (h : k < s.size) (h' : k < f.size), f[k].toNat = if 65 ≤ s[k].toNat ∧ s[k].toNat ≤ 90 then s[k].toNat + 32 else s[k].toNat := by
    intro k h h'
    subst hf
    rw [foldB_at s k h h', low_nat]
  have hmay : mayB s = true → (f.toList == s.toList) = true := by
    intro h
    unfold mayB at h
    simp only [Bool.and_eq_true] at h
    rw [← hf]
    exact h.2
  have HF := Lib.hid hf
  have HS := Lib.hid hfs
  have HFF := Lib.hid hff
  have HA := Lib.hid hat
  have HM := Lib.hid hmay
  clear hf hfs hff hat hmay
  go_enter Tryd.func9, Tryd.ntmps9
  go_wp2_with fail
  refine (shown_any _ ht).mono ?_; rintro e w1 ⟨rfl, hb1⟩
  go_wp2_with fail
  refine (fold_any s hs _).mono ?_; rintro e w2 ⟨rfl, hb2⟩
  rw [HF.out]
  have b1 : ((f.size : Int) != (s.size : Int)) = false := by rw [HS.out]; simp
  go_wp2_with fail
  have hfz : f.size ≤ 140737488355328 := by rw [HS.out]; exact hs
  refine (fold_any f hfz _).mono ?_; rintro e w3 ⟨rfl, hb3⟩
  have b3 : ((foldB f).toList == f.toList) = true := by rw [HFF.out]; simp
  have hb : Below w.heap.size w w3 := bthen (bthen hb1 hb2) hb3
  clear b1 hb1 hb2 hb3 hbig ht
  go_wp2_with fail
  go_loopw [5] (fun i wr => ∃ k : Nat, k ≤ s.size ∧ i = .int .i64 k ∧ Below w.heap.size w wr) (fun i _ => s.size - (intOf i).toNat)
  case atStart => exact ⟨0, Nat.zero_le _, rfl, hb⟩
  case round =>
    obtain ⟨k, hk, rfl, hbr⟩ := hrel
    clear b3
    by_cases hlt : k < s.size
    · have hlf : k < f.size := by rw [HS.out]; exact hlt
      have hfk := HA.out k hlt hlf
      have h8 : s[k].toNat ≤ 255 := by have := s[k].toNat_lt; omega
      by_cases hg : 65 ≤ s[k].toNat ∧ s[k].toNat ≤ 90
      · rw [if_pos hg] at hfk
        obtain ⟨g1, g2⟩ := hg
        have c1 : ((f[k].toNat : Int) != (s[k].toNat : Int) + 32) = false := by rw [hfk]; simp
        have d1 : decide ((65 : Int) ≤ (s[k].toNat : Int)) = true := by simp; omega
        have d2 : decide ((s[k].toNat : Int) ≤ 90) = true := by simp; omega
        have HK := Lib.hid hfk
        clear hfk
        go_wp2_with fail
        go_quiet (fail)
        go_wp2_with fail
        go_roundw
        case rel => exact ⟨k + 1, hlt, by go_num, below_drewN hbr _⟩
        case measure => simp [intOf]; omega
      · rw [if_neg hg] at hfk
        have c1 : ((f[k].toNat : Int) != (s[k].toNat : Int)) = false := by rw [hfk]; simp
        have HK := Lib.hid hfk
        clear hfk
        by_cases g1 : 65 ≤ s[k].toNat
        · have d1 : decide ((65 : Int) ≤ (s[k].toNat : Int)) = true := by simp; omega
          have d2 : decide ((s[k].toNat : Int) ≤ 90) = false := by simp; omega
          clear hg
          go_wp2_with fail
          go_quiet (fail)
          go_wp2_with fail
          go_roundw
          case rel => exact ⟨k + 1, hlt, by go_num, below_drewN hbr _⟩
          case measure => simp [intOf]; omega
        · have d1 : decide ((65 : Int) ≤ (s[k].toNat : Int)) = false := by simp; omega
          clear hg
          go_wp2_with fail
          go_quiet (fail)
          go_wp2_with fail
          go_roundw
          case rel => exact ⟨k + 1, hlt, by go_num, below_drewN hbr _⟩
          case measure => simp [intOf]; omega
    · go_wp2_with fail
      refine (may_any s hs _).mono ?_; rintro e w4 ⟨rfl, hb4⟩
      cases hm : mayB s with
      | true =>
        have b4 := HM.out hm
        clear hm
        go_wp2_with fail
        go_ret
        exact ⟨rfl, bthen hbr hb4⟩
      | false =>
        clear hm
        go_wp2_with fail
        go_ret
        exact ⟨rfl, bthen hbr hb4⟩
end Go.Proofs.YtceafomifpkiaaaDoor
