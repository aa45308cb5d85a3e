/- The walk of TtlClamps. -/
import Derived.Test.YtomhfjpjdgecpaaTta
namespace Go.Proofs.Ytomhfjpjdgecpaa
open Go.RowKit
set_option linter.unusedVariables false

theorem clp_le {a m : Nat} : clpN a m ≤ m ∧ clpN a m ≤ a ∧ clpN (clpN a m) m = clpN a m := by
  by_cases h1 : 2147483648 ≤ a
  · have e : clpN a m = 0 := if_pos h1
    rw [e]
    exact ⟨Nat.zero_le _, Nat.zero_le _, by unfold clpN; rw [if_neg (by omega), if_neg (by omega)]⟩
  · by_cases h2 : m < a
    · have e : clpN a m = m := by unfold clpN; rw [if_neg h1, if_pos h2]
      rw [e]
      exact ⟨Nat.le_refl _, Nat.le_of_lt h2, by unfold clpN; rw [if_neg (by omega), if_neg (by omega)]⟩
    · have e : clpN a m = a := by unfold clpN; rw [if_neg h1, if_neg h2]
      rw [e]
      exact ⟨by omega, Nat.le_refl _, e⟩
set_option maxRecDepth 100000 in
set_option maxHeartbeats 2000000 in
theorem clamps_1 (a m c : Nat) (h3 : a < 4294967296) (h4 : m < 4294967296) (hc : c < 4294967296) (k1 : c ≤ m) (k2 : c ≤ a) (hy : m < a) (g1 : decide ((a : Int) < 2147483648) = true) (g2 : decide ((a : Int) ≥ 2147483648) = false) (H1 : Hid (∀ w : World, Calls Try.prog 15 #[.int .u32 (a : Nat), .int .u32 (m : Nat)] w fun x w' => x = .returned (.int .u32 (c : Nat)) ∧ Below w.heap.size w w')) (H2 : Hid (∀ w : World, Calls Try.prog 15 #[.int .u32 (c : Nat), .int .u32 (m : Nat)] w fun x w' => x = .returned (.int .u32 (c : Nat)) ∧ Below w.heap.size w w')) (w : World) : Calls Try.prog 7 #[.int .u32 (a : Nat), .int .u32 (m : Nat)] w fun e w' => e = .returned (.bool true) ∧ Below w.heap.size w w' := by
  go_enter Try.func7, Try.ntmps7
  go_wp2_with fail
  refine (shown_any _).mono ?_
  rintro _ w1 ⟨rfl, hb⟩
  have HB1 := Lib.hid hb
  clear hb
  go_wp2_with fail
  refine (H1.out _).mono ?_
  rintro _ w2 ⟨rfl, hb⟩
  have HB2 := Lib.hid (HB1.out.trans (hb.mono HB1.out.size))
  clear hb HB1
  go_wp2_with fail
  refine (H2.out _).mono ?_
  rintro _ w3 ⟨rfl, hb⟩
  have HB3 := Lib.hid (HB2.out.trans (hb.mono HB2.out.size))
  clear hb HB2
  go_wp2_with fail
  go_ret
  exact ⟨rfl, HB3.out⟩
set_option maxRecDepth 100000 in
set_option maxHeartbeats 2000000 in
theorem clamps_2 (a m : Nat) (h3 : a < 4294967296) (h4 : m < 4294967296) (k1 : a ≤ m) (hy : ¬ m < a) (g1 : decide ((a : Int) < 2147483648) = true) (g2 : decide ((a : Int) ≥ 2147483648) = false) (H1 : Hid (∀ w : World, Calls Try.prog 15 #[.int .u32 (a : Nat), .int .u32 (m : Nat)] w fun x w' => x = .returned (.int .u32 (a : Nat)) ∧ Below w.heap.size w w')) (H2 : Hid (∀ w : World, Calls Try.prog 15 #[.int .u32 (a : Nat), .int .u32 (m : Nat)] w fun x w' => x = .returned (.int .u32 (a : Nat)) ∧ Below w.heap.size w w')) (w : World) : Calls Try.prog 7 #[.int .u32 (a : Nat), .int .u32 (m : Nat)] w fun e w' => e = .returned (.bool true) ∧ Below w.heap.size w w' := by
  go_enter Try.func7, Try.ntmps7
  go_wp2_with fail
  refine (shown_any _).mono ?_
  rintro _ w1 ⟨rfl, hb⟩
  have HB1 := Lib.hid hb
  clear hb
  go_wp2_with fail
  refine (H1.out _).mono ?_
  rintro _ w2 ⟨rfl, hb⟩
  have HB2 := Lib.hid (HB1.out.trans (hb.mono HB1.out.size))
  clear hb HB1
  go_wp2_with fail
  refine (H2.out _).mono ?_
  rintro _ w3 ⟨rfl, hb⟩
  have HB3 := Lib.hid (HB2.out.trans (hb.mono HB2.out.size))
  clear hb HB2
  go_wp2_with fail
  go_ret
  exact ⟨rfl, HB3.out⟩
set_option maxRecDepth 100000 in
set_option maxHeartbeats 2000000 in
theorem clamps_3 (a m : Nat) (h3 : a < 4294967296) (h4 : m < 4294967296) (g1 : decide ((a : Int) < 2147483648) = false) (g2 : decide ((a : Int) ≥ 2147483648) = true) (H1 : Hid (∀ w : World, Calls Try.prog 15 #[.int .u32 (a : Nat), .int .u32 (m : Nat)] w fun x w' => x = .returned (.int .u32 0) ∧ Below w.heap.size w w')) (H2 : Hid (∀ w : World, Calls Try.prog 15 #[.int .u32 0, .int .u32 (m : Nat)] w fun x w' => x = .returned (.int .u32 0) ∧ Below w.heap.size w w')) (w : World) : Calls Try.prog 7 #[.int .u32 (a : Nat), .int .u32 (m : Nat)] w fun e w' => e = .returned (.bool true) ∧ Below w.heap.size w w' := by
  go_enter Try.func7, Try.ntmps7
  go_wp2_with fail
  refine (shown_any _).mono ?_
  rintro _ w1 ⟨rfl, hb⟩
  have HB1 := Lib.hid hb
  clear hb
  go_wp2_with fail
  refine (H1.out _).mono ?_
  rintro _ w2 ⟨rfl, hb⟩
  have HB2 := Lib.hid (HB1.out.trans (hb.mono HB1.out.size))
  clear hb HB1
  go_wp2_with fail
  refine (H2.out _).mono ?_
  rintro _ w3 ⟨rfl, hb⟩
  have HB3 := Lib.hid (HB2.out.trans (hb.mono HB2.out.size))
  clear hb HB2
  go_wp2_with fail
  go_ret
  exact ⟨rfl, HB3.out⟩
theorem clamps_walk (a m : Nat) (h3 : a < 4294967296) (h4 : m < 4294967296) (w : World) : Calls Try.prog 7 #[.int .u32 (a : Nat), .int .u32 (m : Nat)] w fun e w' => e = .returned (.bool true) ∧ Below w.heap.size w w' := by
  have H1 := fun w => clamp_any a m h3 h4 w
  have hlt := clpN_lt (m := m) h3
  have H2 := fun w => clamp_any (clpN a m) m hlt h4 w
  obtain ⟨k1, k2, k3⟩ := clp_le (a := a) (m := m)
  rw [k3] at H2
  have g1 : a < 2147483648 → decide ((a : Int) < 2147483648) = true := fun h => decide_eq_true (by omega)
  have g2 : a < 2147483648 → decide ((a : Int) ≥ 2147483648) = false := fun h => decide_eq_false (by omega)
  have g3 : 2147483648 ≤ a → decide ((a : Int) < 2147483648) = false := fun h => decide_eq_false (by omega)
  have g4 : 2147483648 ≤ a → decide ((a : Int) ≥ 2147483648) = true := fun h => decide_eq_true (by omega)
  by_cases hx : a < 2147483648
  · have hx' : ¬ 2147483648 ≤ a := by omega
    by_cases hy : m < a
    · exact clamps_1 a m _ h3 h4 hlt k1 k2 hy (g1 hx) (g2 hx) (Lib.hid H1) (Lib.hid H2) w
    · have e : clpN a m = a := by unfold clpN; rw [if_neg hx', if_neg hy]
      rw [e] at H1 H2 k1
      exact clamps_2 a m h3 h4 k1 hy (g1 hx) (g2 hx) (Lib.hid H1) (Lib.hid H2) w
  · have hx' : 2147483648 ≤ a := by omega
    have e : clpN a m = 0 := if_pos hx'
    rw [e] at H1 H2
    exact clamps_3 a m h3 h4 (g3 hx') (g4 hx') (Lib.hid H1) (Lib.hid H2) w
theorem clamps_walkI (a0 : Int) (a1 : Int) (w0 : (Lit.int .u32 a0).wf = true) (w1 : (Lit.int .u32 a1).wf = true) (w : World) :
    Calls Try.prog 7 #[.int .u32 a0, .int .u32 a1] w fun e w' => e = .returned (.bool true) ∧ Below w.heap.size w w' := by
  obtain ⟨k0, rfl, h0⟩ := nat_u32 w0
  obtain ⟨k1, rfl, h1⟩ := nat_u32 w1
  exact clamps_walk k0 k1 h0 h1 w
end Go.Proofs.Ytomhfjpjdgecpaa
