/- The walk of derricklaw01.OctetEnds: it returns true, whatever the arguments. -/
import Derived.Test.YtpgcklncengljaaOcte
import Derived.OpenShut
namespace Go.Proofs.Ytpgcklncengljaa
open Go.RowKit
set_option linter.unusedVariables false

set_option maxHeartbeats 400000 in
theorem ends_walk (s : ByteArray) (a m : Int) (hs : s.size ≤ maxLen) (ha : (Lit.int .i64 a).wf = true) (hm : (Lit.int .i64 m).wf = true) (w : World) :
    Calls Try.prog 6 #[.string s, .int .i64 a, .int .i64 m] w fun e w' => e = .returned (.bool true) ∧ Below w.heap.size w w' := by
  have hs' := hs
  unfold maxLen at hs'
  have hmax : a ≤ maxLen := by have := bounds_i64 ha; unfold maxLen; omega
  have hmax' := hmax
  unfold maxLen at hmax'
  have hm0 := (bounds_i64 hm).2
  clear ha hm
  by_cases hbig : 2000 < s.size
  · go_enter Try.func6, Try.ntmps6
    go_wp2_with (go_at_call 8; refine (shown_any _).mono ?_; rintro e w1 ⟨rfl, hb1⟩)
    go_ret
    exact ⟨rfl, hb1⟩
  by_cases h0 : a < 0
  · go_enter Try.func6, Try.ntmps6
    go_wp2_with fail
    refine (shown_any _).mono ?_; rintro e w1 ⟨rfl, hb1⟩
    go_wp2_with fail
    refine (some_no s a m _ hs hmax (by omega)).mono ?_; rintro e w2 ⟨rfl, rfl⟩
    go_wp2_with fail
    refine (u8_no s a _ hs hmax (by omega)).mono ?_; rintro e w2 ⟨rfl, rfl⟩
    go_wp2_with fail
    go_ret
    exact ⟨rfl, hb1⟩
  by_cases h1 : m < 0
  · by_cases h3 : a < s.size
    · go_enter Try.func6, Try.ntmps6
      go_wp2_with fail
      refine (shown_any _).mono ?_; rintro e w1 ⟨rfl, hb1⟩
      go_wp2_with fail
      refine (some_no s a m _ hs hmax (by omega)).mono ?_; rintro e w2 ⟨rfl, rfl⟩
      go_wp2_with fail
      refine (u8_yes s a _ hs (by omega) (by omega)).mono ?_; rintro e w2 ⟨rfl, hb2⟩
      go_wp2_with fail
      go_ret
      exact ⟨rfl, hb1.trans (hb2.mono hb1.size)⟩
    · have d3 : decide (a < (s.size : Int)) = false := by simpa using h3
      go_enter Try.func6, Try.ntmps6
      go_wp2_with fail
      refine (shown_any _).mono ?_; rintro e w1 ⟨rfl, hb1⟩
      go_wp2_with fail
      refine (some_no s a m _ hs hmax (by omega)).mono ?_; rintro e w2 ⟨rfl, rfl⟩
      go_wp2_with fail
      refine (u8_no s a _ hs hmax (by omega)).mono ?_; rintro e w2 ⟨rfl, rfl⟩
      go_wp2_with fail
      go_ret
      exact ⟨rfl, hb1⟩
  by_cases h2 : a + m ≤ s.size
  · have hlen : ((s.extract a.toNat (a + m).toNat).size : Int) = m := by rw [ByteArray.size_extract]; omega
    by_cases h3 : a < s.size
    · go_enter Try.func6, Try.ntmps6
      go_wp2_with fail
      refine (shown_any _).mono ?_; rintro e w1 ⟨rfl, hb1⟩
      go_wp2_with fail
      refine (some_yes s a m _ hs (by omega) (by omega) h2).mono ?_; rintro e w2 ⟨rfl, rfl⟩
      go_wp2_with fail
      refine (u8_yes s a _ hs (by omega) (by omega)).mono ?_; rintro e w2 ⟨rfl, hb2⟩
      go_wp2_with fail
      go_ret
      exact ⟨rfl, hb1.trans (hb2.mono hb1.size)⟩
    · have d3 : decide (a < (s.size : Int)) = false := by simpa using h3
      go_enter Try.func6, Try.ntmps6
      go_wp2_with fail
      refine (shown_any _).mono ?_; rintro e w1 ⟨rfl, hb1⟩
      go_wp2_with fail
      refine (some_yes s a m _ hs (by omega) (by omega) h2).mono ?_; rintro e w2 ⟨rfl, rfl⟩
      go_wp2_with fail
      refine (u8_no s a _ hs hmax (by omega)).mono ?_; rintro e w2 ⟨rfl, rfl⟩
      go_wp2_with fail
      go_ret
      exact ⟨rfl, hb1⟩
  · by_cases h3 : a < s.size
    · go_enter Try.func6, Try.ntmps6
      go_wp2_with fail
      refine (shown_any _).mono ?_; rintro e w1 ⟨rfl, hb1⟩
      go_wp2_with fail
      refine (some_no s a m _ hs hmax (by omega)).mono ?_; rintro e w2 ⟨rfl, rfl⟩
      go_wp2_with fail
      refine (u8_yes s a _ hs (by omega) (by omega)).mono ?_; rintro e w2 ⟨rfl, hb2⟩
      go_wp2_with fail
      go_ret
      exact ⟨rfl, hb1.trans (hb2.mono hb1.size)⟩
    · have d3 : decide (a < (s.size : Int)) = false := by simpa using h3
      by_cases h4 : a ≤ s.size
      · go_enter Try.func6, Try.ntmps6
        go_wp2_with fail
        refine (shown_any _).mono ?_; rintro e w1 ⟨rfl, hb1⟩
        go_wp2_with fail
        refine (some_no s a m _ hs hmax (by omega)).mono ?_; rintro e w2 ⟨rfl, rfl⟩
        go_wp2_with fail
        refine (u8_no s a _ hs hmax (by omega)).mono ?_; rintro e w2 ⟨rfl, rfl⟩
        go_wp2_with fail
        go_ret
        exact ⟨rfl, hb1⟩
      · go_enter Try.func6, Try.ntmps6
        go_wp2_with fail
        refine (shown_any _).mono ?_; rintro e w1 ⟨rfl, hb1⟩
        go_wp2_with fail
        refine (some_no s a m _ hs hmax (by omega)).mono ?_; rintro e w2 ⟨rfl, rfl⟩
        go_wp2_with fail
        refine (u8_no s a _ hs hmax (by omega)).mono ?_; rintro e w2 ⟨rfl, rfl⟩
        go_wp2_with fail
        go_ret
        exact ⟨rfl, hb1⟩
end Go.Proofs.Ytpgcklncengljaa
