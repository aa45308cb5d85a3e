/- The walk of derricklaw01.OctetOne: it returns true, whatever the arguments. -/
import Derived.Test.YtpgcklncengljaaOcte
import Derived.OpenShut
namespace Go.Proofs.Ytpgcklncengljaa
open Go.RowKit
set_option linter.unusedVariables false

/-- 'string([]byte{b})': one byte. -/
theorem conv1 (b : UInt8) (W : World) : (convert 45 9 (.slice (some ⟨W.heap.size, 0, none⟩) 1 1)).run Try.prog (W.alloc (.cells #[.int .u8 (b.toNat : Int)] 5)) =
    .ok (.string ⟨#[b]⟩) (W.alloc (.cells #[.int .u8 (b.toNat : Int)] 5)) := by
  have h := run_convert_bytes_back (P := Try.prog) (W.alloc (.cells #[.int .u8 (b.toNat : Int)] 5)) 45 9 5 ⟨W.heap.size, 0, none⟩ 1 [b] Try.underlying45 Try.underlying5 Try.underlying9 (by
    intro j hj
    obtain rfl : j = 0 := by simpa using hj
    simp [Addr.add])
  exact h

/-- The part of one byte. -/
theorem extract_one (s : ByteArray) (a : Int) (h0 : 0 ≤ a) (h1 : a + 1 ≤ s.size) : ∃ b : UInt8, s.extract a.toNat (a + 1).toNat = ⟨#[b]⟩ ∧ bnum (s.extract a.toNat (a + 1).toNat) = b.toNat := by
  have hl : (s.extract a.toNat (a + 1).toNat).data.toList.length = 1 := by
    simp; omega
  obtain ⟨b, hb⟩ := List.length_eq_one_iff.1 hl
  refine ⟨b, ?_, ?_⟩
  · apply ByteArray.ext
    apply Array.toList_inj.1
    rw [hb]
  · unfold bnum
    rw [hb]
    simp [num]

theorem conv_part (s : ByteArray) (a : Int) (h0 : 0 ≤ a) (h1 : a + 1 ≤ s.size) (W : World) :
    (convert 45 9 (.slice (some ⟨W.heap.size, 0, none⟩) 1 1)).run Try.prog (W.alloc (.cells #[.int .u8 (bnum (s.extract a.toNat (a + 1).toNat))] 5)) =
    .ok (.string (s.extract a.toNat (a + 1).toNat)) (W.alloc (.cells #[.int .u8 (bnum (s.extract a.toNat (a + 1).toNat))] 5)) := by
  obtain ⟨b, h, hn⟩ := extract_one s a h0 h1
  rw [hn, h]
  exact conv1 b W

set_option maxHeartbeats 400000 in
theorem one_walk (s : ByteArray) (a : Int) (hs : s.size ≤ maxLen) (ha : (Lit.int .u8 a).wf = true) (w : World) :
    Calls Try.prog 7 #[.string s, .int .u8 a] w fun e w' => e = .returned (.bool true) ∧ Below w.heap.size w w' := by
  have hs' := hs
  unfold maxLen at hs'
  obtain ⟨a0, a1⟩ := bounds_u8 ha
  by_cases hbig : 2000 < s.size
  · go_enter Try.func7, Try.ntmps7
    go_wp2_with (go_at_call 8; refine (shown_any _).mono ?_; rintro e w1 ⟨rfl, hb1⟩)
    go_ret
    exact ⟨rfl, hb1⟩
  have hmax : a ≤ maxLen := by unfold maxLen; omega
  by_cases h1 : a + 1 ≤ s.size
  · have hcv := conv_part s a a0 h1
    go_enter Try.func7, Try.ntmps7
    go_wp2_with fail
    refine (shown_any _).mono ?_; rintro e w1 ⟨rfl, hb1⟩
    go_wp2_with fail
    refine (some_yes s a 1 _ hs a0 (by omega) h1).mono ?_; rintro e w2 ⟨rfl, rfl⟩
    go_wp2_with fail
    refine (u8_yes s a _ hs a0 h1).mono ?_; rintro e w2 ⟨rfl, hb2⟩
    go_wp2_with fail
    refine (some_yes s a 0 _ hs a0 (by omega) (by omega)).mono ?_; rintro e w3 ⟨rfl, rfl⟩
    go_wp2_with fail
    go_ret
    exact ⟨rfl, (hb1.trans (hb2.mono hb1.size)).alloc (Nat.le_trans hb1.size hb2.size) _⟩
  by_cases h2 : a ≤ s.size
  · go_enter Try.func7, Try.ntmps7
    go_wp2_with fail
    refine (shown_any _).mono ?_; rintro e w1 ⟨rfl, hb1⟩
    go_wp2_with fail
    refine (some_no s a 1 _ hs hmax (by omega)).mono ?_; rintro e w2 ⟨rfl, rfl⟩
    go_wp2_with fail
    refine (u8_no s a _ hs hmax (by omega)).mono ?_; rintro e w2 ⟨rfl, rfl⟩
    go_wp2_with fail
    refine (some_yes s a 0 _ hs a0 (by omega) (by omega)).mono ?_; rintro e w3 ⟨rfl, rfl⟩
    go_wp2_with fail
    go_ret
    exact ⟨rfl, hb1⟩
  · have d2 : decide (a ≤ (s.size : Int)) = false := by simpa using h2
    go_enter Try.func7, Try.ntmps7
    go_wp2_with fail
    refine (shown_any _).mono ?_; rintro e w1 ⟨rfl, hb1⟩
    go_wp2_with fail
    refine (some_no s a 1 _ hs hmax (by omega)).mono ?_; rintro e w2 ⟨rfl, rfl⟩
    go_wp2_with fail
    refine (u8_no s a _ hs hmax (by omega)).mono ?_; rintro e w2 ⟨rfl, rfl⟩
    go_wp2_with fail
    refine (some_no s a 0 _ hs hmax (by omega)).mono ?_; rintro e w3 ⟨rfl, rfl⟩
    go_wp2_with fail
    go_ret
    exact ⟨rfl, hb1⟩
end Go.Proofs.Ytpgcklncengljaa
