/- The walk of TtlFalls. -/
import Derived.Test.YtomhfjpjdgecpaaTta
namespace Go.Proofs.Ytomhfjpjdgecpaa
open Go.RowKit
set_option linter.unusedVariables false

set_option maxRecDepth 100000 in
set_option maxHeartbeats 2000000 in
/-- The end is cut: nothing more is asked. -/
theorem falls_1 (now n z E d : Nat) (h1 : now < 18446744073709551616) (h2 : n < 4294967296) (h3 : z < 4294967296) (hE : E < 18446744073709551616) (hle : now ≤ E) (hd : (E : Int) - (now : Int) = (d : Int)) (hd2 : d < 18446744073709551616) (hne : ¬ d = n)
    (H1 : Hid (∀ w : World, Calls Try.prog 10 #[.int .u64 (now : Nat), .int .u32 (n : Nat)] w fun e w' => e = .returned (.int .u64 (E : Nat)) ∧ w' = w)) (w : World) :
    Calls Try.prog 5 #[.int .u64 (now : Nat), .int .u32 (n : Nat), .int .u32 (z : Nat)] w fun e w' => e = .returned (.bool true) ∧ Below w.heap.size w w' := by
  go_enter Try.func5, Try.ntmps5
  go_wp2_with fail
  refine (shown_any _).mono ?_
  rintro _ w1 ⟨rfl, hb⟩
  have HB1 := Lib.hid hb
  clear hb
  go_wp2_with fail
  refine (H1.out _).mono ?_
  rintro _ _ ⟨rfl, rfl⟩
  go_wp2_with fail
  go_ret
  exact ⟨rfl, HB1.out⟩
set_option maxRecDepth 100000 in
set_option maxHeartbeats 2000000 in
/-- The later time is none. -/
theorem falls_2 (now n z E s : Nat) (h1 : now < 18446744073709551616) (h2 : n < 4294967296) (h3 : z < 4294967296) (hE : E < 18446744073709551616) (hle : now ≤ E) (hd : (E : Int) - (now : Int) = (n : Int)) (hs : IntKind.u64.wrap ((now : Int) + (z : Int)) = (s : Int)) (hs2 : s < now)
    (H1 : Hid (∀ w : World, Calls Try.prog 10 #[.int .u64 (now : Nat), .int .u32 (n : Nat)] w fun e w' => e = .returned (.int .u64 (E : Nat)) ∧ w' = w)) (w : World) :
    Calls Try.prog 5 #[.int .u64 (now : Nat), .int .u32 (n : Nat), .int .u32 (z : Nat)] w fun e w' => e = .returned (.bool true) ∧ Below w.heap.size w w' := by
  go_enter Try.func5, Try.ntmps5
  go_wp2_with fail
  refine (shown_any _).mono ?_
  rintro _ w1 ⟨rfl, hb⟩
  have HB1 := Lib.hid hb
  clear hb
  go_wp2_with fail
  refine (H1.out _).mono ?_
  rintro _ _ ⟨rfl, rfl⟩
  go_wp2_with fail
  go_ret
  exact ⟨rfl, HB1.out⟩
set_option maxRecDepth 100000 in
set_option maxHeartbeats 2000000 in
/-- At the end, and behind it. -/
theorem falls_3 (now n z E T : Nat) (h1 : now < 18446744073709551616) (h2 : n < 4294967296) (h3 : z < 4294967296) (hE : E < 18446744073709551616) (hle : now ≤ E) (hd : (E : Int) - (now : Int) = (n : Int)) (hs : (now : Int) + (z : Int) = (T : Int)) (hT : T < 18446744073709551616) (hT2 : ¬ T < now) (hz : n ≤ z)
    (H1 : Hid (∀ w : World, Calls Try.prog 10 #[.int .u64 (now : Nat), .int .u32 (n : Nat)] w fun e w' => e = .returned (.int .u64 (E : Nat)) ∧ w' = w))
    (H2 : Hid (∀ w : World, Calls Try.prog 12 #[.int .u64 (E : Nat), .int .u64 (T : Nat)] w fun e w' => e = .returned (.int .u32 0) ∧ Below w.heap.size w w'))
    (H3 : Hid (∀ w : World, Calls Try.prog 14 #[.int .u64 (E : Nat), .int .u64 (T : Nat)] w fun e w' => e = .returned (.bool false) ∧ w' = w)) (w : World) :
    Calls Try.prog 5 #[.int .u64 (now : Nat), .int .u32 (n : Nat), .int .u32 (z : Nat)] w fun e w' => e = .returned (.bool true) ∧ Below w.heap.size w w' := by
  go_enter Try.func5, Try.ntmps5
  go_wp2_with fail
  refine (shown_any _).mono ?_
  rintro _ w1 ⟨rfl, hb⟩
  have HB1 := Lib.hid hb
  clear hb
  go_wp2_with fail
  refine (H1.out _).mono ?_
  rintro _ _ ⟨rfl, rfl⟩
  go_wp2_with fail
  refine (H2.out _).mono ?_
  rintro _ w2 ⟨rfl, hb⟩
  have HB2 := Lib.hid (HB1.out.trans (hb.mono HB1.out.size))
  clear hb HB1
  go_wp2_with fail
  refine (H3.out _).mono ?_
  rintro _ _ ⟨rfl, rfl⟩
  go_wp2_with fail
  go_ret
  exact ⟨rfl, HB2.out⟩
set_option maxRecDepth 100000 in
set_option maxHeartbeats 2000000 in
/-- Ahead of it. -/
theorem falls_4 (now n z E T x y : Nat) (h1 : now < 18446744073709551616) (h2 : n < 4294967296) (h3 : z < 4294967296) (hE : E < 18446744073709551616) (hle : now ≤ E) (hd : (E : Int) - (now : Int) = (n : Int)) (hs : (now : Int) + (z : Int) = (T : Int)) (hT : T + 1 < 18446744073709551616) (hT2 : ¬ T < now) (hz : ¬ n ≤ z)
    (hx : (n : Int) - (z : Int) = (x : Int)) (hx2 : x < 4294967296) (hy : (x : Int) - 1 = (y : Int)) (hy2 : y < 4294967296)
    (H1 : Hid (∀ w : World, Calls Try.prog 10 #[.int .u64 (now : Nat), .int .u32 (n : Nat)] w fun e w' => e = .returned (.int .u64 (E : Nat)) ∧ w' = w))
    (H2 : Hid (∀ w : World, Calls Try.prog 12 #[.int .u64 (E : Nat), .int .u64 (T : Nat)] w fun e w' => e = .returned (.int .u32 (x : Nat)) ∧ Below w.heap.size w w'))
    (H3 : Hid (∀ w : World, Calls Try.prog 14 #[.int .u64 (E : Nat), .int .u64 (T : Nat)] w fun e w' => e = .returned (.bool true) ∧ w' = w))
    (H4 : Hid (∀ w : World, Calls Try.prog 12 #[.int .u64 (E : Nat), .int .u64 ((T : Int) + 1)] w fun e w' => e = .returned (.int .u32 (y : Nat)) ∧ Below w.heap.size w w')) (w : World) :
    Calls Try.prog 5 #[.int .u64 (now : Nat), .int .u32 (n : Nat), .int .u32 (z : Nat)] w fun e w' => e = .returned (.bool true) ∧ Below w.heap.size w w' := by
  go_enter Try.func5, Try.ntmps5
  go_wp2_with fail
  refine (shown_any _).mono ?_
  rintro _ w1 ⟨rfl, hb⟩
  have HB1 := Lib.hid hb
  clear hb
  go_wp2_with fail
  refine (H1.out _).mono ?_
  rintro _ _ ⟨rfl, rfl⟩
  go_wp2_with fail
  refine (H2.out _).mono ?_
  rintro _ w2 ⟨rfl, hb⟩
  have HB2 := Lib.hid (HB1.out.trans (hb.mono HB1.out.size))
  clear hb HB1
  go_wp2_with fail
  refine (H3.out _).mono ?_
  rintro _ _ ⟨rfl, rfl⟩
  go_wp2_with fail
  refine (H4.out _).mono ?_
  rintro _ w3 ⟨rfl, hb⟩
  have HB3 := Lib.hid (HB2.out.trans (hb.mono HB2.out.size))
  clear hb HB2
  go_wp2_with fail
  go_ret
  exact ⟨rfl, HB3.out⟩
theorem falls_walk (now n z : Nat) (h1 : now < 18446744073709551616) (h2 : n < 4294967296) (h3 : z < 4294967296) (w : World) :
    Calls Try.prog 5 #[.int .u64 (now : Nat), .int .u32 (n : Nat), .int .u32 (z : Nat)] w fun e w' => e = .returned (.bool true) ∧ Below w.heap.size w w' := by
  have H1 := fun w => until_any now n h1 h2 w
  by_cases hc : now + n < 18446744073709551616
  · have e : untN now n = now + n := if_pos hc
    rw [e] at H1
    obtain ⟨E, hE⟩ : ∃ E, E = now + n := ⟨_, rfl⟩
    rw [← hE] at H1
    by_cases hc2 : now + z < 18446744073709551616
    · obtain ⟨T, hT⟩ : ∃ T, T = now + z := ⟨_, rfl⟩
      have H2 := fun w => left_any E T (by omega) (by omega) w
      have H3 := fun w => live_any E T w
      by_cases hz : n ≤ z
      · rw [show lefN E T = 0 from if_pos (by omega)] at H2
        rw [show decide (T < E) = false from decide_eq_false (by omega)] at H3
        exact falls_3 now n z E T h1 h2 h3 (by omega) (by omega) (by omega) (by omega) (by omega) (by omega) hz (Lib.hid H1) (Lib.hid H2) (Lib.hid H3) w
      · have H4 := fun w => left_any E (T + 1) (by omega) (by omega) w
        have e1 : lefN E T = n - z := by unfold lefN; rw [if_neg (by omega), if_neg (by omega)]; omega
        have e2 : lefN E (T + 1) = n - z - 1 := by
          unfold lefN
          by_cases hq : E ≤ T + 1
          · rw [if_pos hq]; omega
          · rw [if_neg hq, if_neg (by omega)]; omega
        rw [e1] at H2
        rw [e2] at H4
        rw [show decide (T < E) = true from decide_eq_true (by omega)] at H3
        exact falls_4 now n z E T (n - z) (n - z - 1) h1 h2 h3 (by omega) (by omega) (by omega) (by omega) (by omega) (by omega) hz (by omega) (by omega) (by omega) (by omega) (Lib.hid H1) (Lib.hid H2) (Lib.hid H3) (Lib.hid H4) w
    · exact falls_2 now n z E (now + z - 18446744073709551616) h1 h2 h3 (by omega) (by omega) (by omega) (by simp [IntKind.wrap, IntKind.bits, IntKind.signed]; omega) (by omega) (Lib.hid H1) w
  · have e : untN now n = 18446744073709551615 := if_neg hc
    rw [e] at H1
    obtain ⟨E, hE⟩ : ∃ E : Nat, E = 18446744073709551615 := ⟨_, rfl⟩
    rw [← hE] at H1
    exact falls_1 now n z E (E - now) h1 h2 h3 (by omega) (by omega) (by omega) (by omega) (by omega) (Lib.hid H1) w
theorem falls_walkI (a0 : Int) (a1 : Int) (a2 : Int) (w0 : (Lit.int .u64 a0).wf = true) (w1 : (Lit.int .u32 a1).wf = true) (w2 : (Lit.int .u32 a2).wf = true) (w : World) :
    Calls Try.prog 5 #[.int .u64 a0, .int .u32 a1, .int .u32 a2] w fun e w' => e = .returned (.bool true) ∧ Below w.heap.size w w' := by
  obtain ⟨k0, rfl, h0⟩ := nat_u64 w0
  obtain ⟨k1, rfl, h1⟩ := nat_u32 w1
  obtain ⟨k2, rfl, h2⟩ := nat_u32 w2
  exact falls_walk k0 k1 k2 h0 h1 h2 w
end Go.Proofs.Ytomhfjpjdgecpaa
