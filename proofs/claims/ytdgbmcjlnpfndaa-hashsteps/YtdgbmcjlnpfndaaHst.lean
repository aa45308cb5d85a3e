/- The walk of derricklaw09.HashSteps. -/
import Derived.Test.YtdgbmcjlnpfndaaHsb
namespace Go.Proofs.Ytdgbmcjlnpfndaa
open Go.RowKit
set_option linter.unusedVariables false

theorem conv1 (c : Nat) (hc : c < 256) (W : World) : (convert 38 9 (.slice (some ⟨W.heap.size, 0, none⟩) 1 1)).run Try.prog (W.alloc (.cells #[.int .u8 (c : Nat)] 5)) =
    .ok (.string ⟨#[UInt8.ofNat c]⟩) (W.alloc (.cells #[.int .u8 (c : Nat)] 5)) := by
  have e : ((UInt8.ofNat c).toNat : Int) = (c : Nat) := by rw [UInt8.toNat_ofNat']; omega
  have h := run_convert_bytes_back (P := Try.prog) (W.alloc (.cells #[.int .u8 ((UInt8.ofNat c).toNat : Int)] 5)) 38 9 5 ⟨W.heap.size, 0, none⟩ 1 [UInt8.ofNat c] Try.underlying38 Try.underlying5 Try.underlying9 (by
    intro j hj
    obtain rfl : j = 0 := by simp at hj; omega
    simp [Addr.add])
  rw [e] at h
  exact h
theorem fnv_snoc (s : ByteArray) (b : UInt8) : fnv (s ++ ⟨#[b]⟩) = fnv1 (fnv s) b := by
  unfold fnv
  rw [show (s ++ ⟨#[b]⟩ : ByteArray).data.toList = s.data.toList ++ [b] by simp]
  exact fnvL_snoc _ _
theorem turn_back (y : Nat) (hy : y < 4294967296) : ((y * 16777619 % 4294967296 : Nat) : Int) * 899433627 % 4294967296 = (y : Nat) := by omega

set_option maxRecDepth 100000 in
set_option maxHeartbeats 1000000 in
theorem steps_walk (s : ByteArray) (c : Nat) (hz : s.size ≤ 140737488355328) (hc : c < 256) (W : World) :
    Calls Try.prog 6 #[.string s, .int .u8 (c : Nat)] W fun e w' => e = .returned (.bool true) ∧ Below W.heap.size W w' := by
  have HS := Lib.hid (fun w => shown_any w)
  by_cases h : s.size ≤ 2000
  · have d0 : decide ((s.size : Int) > 2000) = false := by simp; omega
    have H1 := Lib.hid (fun w => of_any s (by omega) w)
    have H2 := Lib.hid (fun w => of_any (s ++ ⟨#[UInt8.ofNat c]⟩) (by rw [ByteArray.size_append]; show s.size + 1 ≤ _; omega) w)
    rw [fnv_snoc] at H2
    have hcv := conv1 c hc
    have q1 : ∀ w, (Op.stringOp .add s ⟨#[UInt8.ofNat c]⟩).run Try.prog w = .ok (.string (s ++ ⟨#[UInt8.ofNat c]⟩)) w := fun w => run_string_add_sum w _ _ (by show s.size + 1 ≤ _; omega)
    generalize (s ++ ⟨#[UInt8.ofNat c]⟩ : ByteArray) = S1 at *
    have hl := fnv_lt s
    have hu : (UInt8.ofNat c).toNat = c := by rw [UInt8.toNat_ofNat']; omega
    have hx : fnv1 (fnv s) (UInt8.ofNat c) = (fnv s ^^^ c) * 16777619 % 4294967296 := by unfold fnv1; rw [hu]
    rw [hx] at H2
    generalize fnv s = h0 at *
    have hb := bits_xor_u32 h0 c hl (by omega)
    have hy : h0 ^^^ c < 4294967296 := by
      have : h0 ^^^ c < 2 ^ 32 := Nat.xor_lt_two_pow (by omega) (by omega)
      omega
    generalize h0 ^^^ c = y at *
    have e2 := turn_back y hy
    have e1 : (y : Int) * 16777619 % 4294967296 = ((y * 16777619 % 4294967296 : Nat) : Int) := by omega
    generalize y * 16777619 % 4294967296 = x at *
    have hc2 : (c : Int) % 4294967296 = (c : Nat) := by omega
    clear hx hu hy h hz
    go_enter Try.func6, Try.ntmps6
    go_wp2_with (first
      | (go_at_call 8; with_reducible (refine (HS.out _).mono ?_); rintro e w1 ⟨rfl, rfl⟩)
      | (go_at_call 10; with_reducible (refine (H1.out _).mono ?_); rintro e w1 ⟨rfl, rfl⟩)
      | (go_at_call 10; with_reducible (refine (H2.out _).mono ?_); rintro e w1 ⟨rfl, rfl⟩))
    go_ret
    exact ⟨rfl, (Below.refl _ _).alloc (Nat.le_refl _) _⟩
  · have d0 : decide ((s.size : Int) > 2000) = true := by simp; omega
    go_enter Try.func6, Try.ntmps6
    go_wp2_with (go_at_call 8; with_reducible (refine (HS.out _).mono ?_); rintro e w1 ⟨rfl, rfl⟩)
    go_ret
    exact ⟨rfl, Below.refl _ _⟩
end Go.Proofs.Ytdgbmcjlnpfndaa
