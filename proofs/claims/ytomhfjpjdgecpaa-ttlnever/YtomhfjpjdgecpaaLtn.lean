/- The walk of TtlNever. -/
import Derived.Test.YtomhfjpjdgecpaaTta
namespace Go.Proofs.Ytomhfjpjdgecpaa
open Go.RowKit
set_option linter.unusedVariables false
set_option maxRecDepth 100000 in
set_option maxHeartbeats 2000000 in
theorem never_1a (x : Nat) (e a b n y U V P Q : Nat) (h0 : e < 18446744073709551616) (h1 : a < 18446744073709551616) (h2 : b < 18446744073709551616) (h3 : n < 4294967296) (hab : a < b) (kV : V ≤ n) (kP : P ≤ Q) (kx : ((x : Int) == 0) = false) (ky : y ≤ x) (H1 : Hid (∀ w : World, Calls Try.prog 12 #[.int .u64 (e : Nat), .int .u64 (a : Nat)] w fun e w' => e = .returned (.int .u32 (x : Nat)) ∧ Below w.heap.size w w')) (H2 : Hid (∀ w : World, Calls Try.prog 12 #[.int .u64 (e : Nat), .int .u64 (b : Nat)] w fun e w' => e = .returned (.int .u32 (y : Nat)) ∧ Below w.heap.size w w')) (H3 : Hid (∀ w : World, Calls Try.prog 14 #[.int .u64 (e : Nat), .int .u64 (a : Nat)] w fun e w' => e = .returned (.bool true) ∧ w' = w)) (H4 : Hid (∀ w : World, Calls Try.prog 10 #[.int .u64 (a : Nat), .int .u32 (n : Nat)] w fun e w' => e = .returned (.int .u64 (U : Nat)) ∧ w' = w)) (H5 : Hid (∀ w : World, Calls Try.prog 12 #[.int .u64 (U : Nat), .int .u64 (a : Nat)] w fun e w' => e = .returned (.int .u32 (V : Nat)) ∧ Below w.heap.size w w')) (H6 : Hid (∀ w : World, Calls Try.prog 10 #[.int .u64 (a : Nat), .int .u32 (n : Nat)] w fun e w' => e = .returned (.int .u64 (P : Nat)) ∧ w' = w)) (H7 : Hid (∀ w : World, Calls Try.prog 10 #[.int .u64 (b : Nat), .int .u32 (n : Nat)] w fun e w' => e = .returned (.int .u64 (Q : Nat)) ∧ w' = w)) (w : World) : Calls Try.prog 6 #[.int .u64 (e : Nat), .int .u64 (a : Nat), .int .u64 (b : Nat), .int .u32 (n : Nat)] w fun e w' => e = .returned (.bool true) ∧ Below w.heap.size w w' := by
  go_enter Try.func6, Try.ntmps6
  go_wp2_with fail
  refine (shown_any _).mono ?_
  rintro _ w1 ⟨rfl, hb⟩
  have HB1 := Lib.hid hb
  clear hb
  go_wp2_with fail
  refine (H1.out _).mono ?_
  rintro _ w2 ⟨rfl, hb⟩
  have HB2 := Lib.hid (HB1.out.trans (hb.mono HB1.out.size))
  clear hb HB1
  go_wp2_with fail
  refine (H2.out _).mono ?_
  rintro _ w3 ⟨rfl, hb⟩
  have HB3 := Lib.hid (HB2.out.trans (hb.mono HB2.out.size))
  clear hb HB2
  go_wp2_with fail
  refine (H3.out _).mono ?_
  rintro _ _ ⟨rfl, rfl⟩
  go_wp2_with fail
  refine (H4.out _).mono ?_
  rintro _ _ ⟨rfl, rfl⟩
  go_wp2_with fail
  refine (H5.out _).mono ?_
  rintro _ w4 ⟨rfl, hb⟩
  have HB4 := Lib.hid (HB3.out.trans (hb.mono HB3.out.size))
  clear hb HB3
  go_wp2_with fail
  refine (H6.out _).mono ?_
  rintro _ _ ⟨rfl, rfl⟩
  go_wp2_with fail
  refine (H7.out _).mono ?_
  rintro _ _ ⟨rfl, rfl⟩
  go_wp2_with fail
  go_ret
  exact ⟨rfl, HB4.out⟩
set_option maxRecDepth 100000 in
set_option maxHeartbeats 2000000 in
theorem never_1b (x : Nat) (e a b n y U V P Q : Nat) (h0 : e < 18446744073709551616) (h1 : a < 18446744073709551616) (h2 : b < 18446744073709551616) (h3 : n < 4294967296) (hab : b < a) (kV : V ≤ n) (kP : P ≤ Q) (kx : ((x : Int) == 0) = false) (ky : y ≤ x) (H1 : Hid (∀ w : World, Calls Try.prog 12 #[.int .u64 (e : Nat), .int .u64 (b : Nat)] w fun e w' => e = .returned (.int .u32 (x : Nat)) ∧ Below w.heap.size w w')) (H2 : Hid (∀ w : World, Calls Try.prog 12 #[.int .u64 (e : Nat), .int .u64 (a : Nat)] w fun e w' => e = .returned (.int .u32 (y : Nat)) ∧ Below w.heap.size w w')) (H3 : Hid (∀ w : World, Calls Try.prog 14 #[.int .u64 (e : Nat), .int .u64 (b : Nat)] w fun e w' => e = .returned (.bool true) ∧ w' = w)) (H4 : Hid (∀ w : World, Calls Try.prog 10 #[.int .u64 (a : Nat), .int .u32 (n : Nat)] w fun e w' => e = .returned (.int .u64 (U : Nat)) ∧ w' = w)) (H5 : Hid (∀ w : World, Calls Try.prog 12 #[.int .u64 (U : Nat), .int .u64 (a : Nat)] w fun e w' => e = .returned (.int .u32 (V : Nat)) ∧ Below w.heap.size w w')) (H6 : Hid (∀ w : World, Calls Try.prog 10 #[.int .u64 (b : Nat), .int .u32 (n : Nat)] w fun e w' => e = .returned (.int .u64 (P : Nat)) ∧ w' = w)) (H7 : Hid (∀ w : World, Calls Try.prog 10 #[.int .u64 (a : Nat), .int .u32 (n : Nat)] w fun e w' => e = .returned (.int .u64 (Q : Nat)) ∧ w' = w)) (w : World) : Calls Try.prog 6 #[.int .u64 (e : Nat), .int .u64 (a : Nat), .int .u64 (b : Nat), .int .u32 (n : Nat)] w fun e w' => e = .returned (.bool true) ∧ Below w.heap.size w w' := by
  go_enter Try.func6, Try.ntmps6
  go_wp2_with fail
  refine (shown_any _).mono ?_
  rintro _ w1 ⟨rfl, hb⟩
  have HB1 := Lib.hid hb
  clear hb
  go_wp2_with fail
  refine (H1.out _).mono ?_
  rintro _ w2 ⟨rfl, hb⟩
  have HB2 := Lib.hid (HB1.out.trans (hb.mono HB1.out.size))
  clear hb HB1
  go_wp2_with fail
  refine (H2.out _).mono ?_
  rintro _ w3 ⟨rfl, hb⟩
  have HB3 := Lib.hid (HB2.out.trans (hb.mono HB2.out.size))
  clear hb HB2
  go_wp2_with fail
  refine (H3.out _).mono ?_
  rintro _ _ ⟨rfl, rfl⟩
  go_wp2_with fail
  refine (H4.out _).mono ?_
  rintro _ _ ⟨rfl, rfl⟩
  go_wp2_with fail
  refine (H5.out _).mono ?_
  rintro _ w4 ⟨rfl, hb⟩
  have HB4 := Lib.hid (HB3.out.trans (hb.mono HB3.out.size))
  clear hb HB3
  go_wp2_with fail
  refine (H6.out _).mono ?_
  rintro _ _ ⟨rfl, rfl⟩
  go_wp2_with fail
  refine (H7.out _).mono ?_
  rintro _ _ ⟨rfl, rfl⟩
  go_wp2_with fail
  go_ret
  exact ⟨rfl, HB4.out⟩
set_option maxRecDepth 100000 in
set_option maxHeartbeats 2000000 in
theorem never_1c (x : Nat) (e a n y U V P Q : Nat) (h0 : e < 18446744073709551616) (h1 : a < 18446744073709551616) (h3 : n < 4294967296)  (kV : V ≤ n) (kP : P ≤ Q) (kx : ((x : Int) == 0) = false) (ky : y ≤ x) (H1 : Hid (∀ w : World, Calls Try.prog 12 #[.int .u64 (e : Nat), .int .u64 (a : Nat)] w fun e w' => e = .returned (.int .u32 (x : Nat)) ∧ Below w.heap.size w w')) (H2 : Hid (∀ w : World, Calls Try.prog 12 #[.int .u64 (e : Nat), .int .u64 (a : Nat)] w fun e w' => e = .returned (.int .u32 (y : Nat)) ∧ Below w.heap.size w w')) (H3 : Hid (∀ w : World, Calls Try.prog 14 #[.int .u64 (e : Nat), .int .u64 (a : Nat)] w fun e w' => e = .returned (.bool true) ∧ w' = w)) (H4 : Hid (∀ w : World, Calls Try.prog 10 #[.int .u64 (a : Nat), .int .u32 (n : Nat)] w fun e w' => e = .returned (.int .u64 (U : Nat)) ∧ w' = w)) (H5 : Hid (∀ w : World, Calls Try.prog 12 #[.int .u64 (U : Nat), .int .u64 (a : Nat)] w fun e w' => e = .returned (.int .u32 (V : Nat)) ∧ Below w.heap.size w w')) (H6 : Hid (∀ w : World, Calls Try.prog 10 #[.int .u64 (a : Nat), .int .u32 (n : Nat)] w fun e w' => e = .returned (.int .u64 (P : Nat)) ∧ w' = w)) (H7 : Hid (∀ w : World, Calls Try.prog 10 #[.int .u64 (a : Nat), .int .u32 (n : Nat)] w fun e w' => e = .returned (.int .u64 (Q : Nat)) ∧ w' = w)) (w : World) : Calls Try.prog 6 #[.int .u64 (e : Nat), .int .u64 (a : Nat), .int .u64 (a : Nat), .int .u32 (n : Nat)] w fun e w' => e = .returned (.bool true) ∧ Below w.heap.size w w' := by
  go_enter Try.func6, Try.ntmps6
  go_wp2_with fail
  refine (shown_any _).mono ?_
  rintro _ w1 ⟨rfl, hb⟩
  have HB1 := Lib.hid hb
  clear hb
  go_wp2_with fail
  refine (H1.out _).mono ?_
  rintro _ w2 ⟨rfl, hb⟩
  have HB2 := Lib.hid (HB1.out.trans (hb.mono HB1.out.size))
  clear hb HB1
  go_wp2_with fail
  refine (H2.out _).mono ?_
  rintro _ w3 ⟨rfl, hb⟩
  have HB3 := Lib.hid (HB2.out.trans (hb.mono HB2.out.size))
  clear hb HB2
  go_wp2_with fail
  refine (H3.out _).mono ?_
  rintro _ _ ⟨rfl, rfl⟩
  go_wp2_with fail
  refine (H4.out _).mono ?_
  rintro _ _ ⟨rfl, rfl⟩
  go_wp2_with fail
  refine (H5.out _).mono ?_
  rintro _ w4 ⟨rfl, hb⟩
  have HB4 := Lib.hid (HB3.out.trans (hb.mono HB3.out.size))
  clear hb HB3
  go_wp2_with fail
  refine (H6.out _).mono ?_
  rintro _ _ ⟨rfl, rfl⟩
  go_wp2_with fail
  refine (H7.out _).mono ?_
  rintro _ _ ⟨rfl, rfl⟩
  go_wp2_with fail
  go_ret
  exact ⟨rfl, HB4.out⟩
set_option maxRecDepth 100000 in
set_option maxHeartbeats 2000000 in
theorem never_2a (e a b n y U V P Q : Nat) (h0 : e < 18446744073709551616) (h1 : a < 18446744073709551616) (h2 : b < 18446744073709551616) (h3 : n < 4294967296) (hab : a < b) (kV : V ≤ n) (kP : P ≤ Q) (H1 : Hid (∀ w : World, Calls Try.prog 12 #[.int .u64 (e : Nat), .int .u64 (a : Nat)] w fun e w' => e = .returned (.int .u32 0) ∧ Below w.heap.size w w')) (H2 : Hid (∀ w : World, Calls Try.prog 12 #[.int .u64 (e : Nat), .int .u64 (b : Nat)] w fun e w' => e = .returned (.int .u32 0) ∧ Below w.heap.size w w')) (H3 : Hid (∀ w : World, Calls Try.prog 14 #[.int .u64 (e : Nat), .int .u64 (a : Nat)] w fun e w' => e = .returned (.bool false) ∧ w' = w)) (H4 : Hid (∀ w : World, Calls Try.prog 10 #[.int .u64 (a : Nat), .int .u32 (n : Nat)] w fun e w' => e = .returned (.int .u64 (U : Nat)) ∧ w' = w)) (H5 : Hid (∀ w : World, Calls Try.prog 12 #[.int .u64 (U : Nat), .int .u64 (a : Nat)] w fun e w' => e = .returned (.int .u32 (V : Nat)) ∧ Below w.heap.size w w')) (H6 : Hid (∀ w : World, Calls Try.prog 10 #[.int .u64 (a : Nat), .int .u32 (n : Nat)] w fun e w' => e = .returned (.int .u64 (P : Nat)) ∧ w' = w)) (H7 : Hid (∀ w : World, Calls Try.prog 10 #[.int .u64 (b : Nat), .int .u32 (n : Nat)] w fun e w' => e = .returned (.int .u64 (Q : Nat)) ∧ w' = w)) (w : World) : Calls Try.prog 6 #[.int .u64 (e : Nat), .int .u64 (a : Nat), .int .u64 (b : Nat), .int .u32 (n : Nat)] w fun e w' => e = .returned (.bool true) ∧ Below w.heap.size w w' := by
  go_enter Try.func6, Try.ntmps6
  go_wp2_with fail
  refine (shown_any _).mono ?_
  rintro _ w1 ⟨rfl, hb⟩
  have HB1 := Lib.hid hb
  clear hb
  go_wp2_with fail
  refine (H1.out _).mono ?_
  rintro _ w2 ⟨rfl, hb⟩
  have HB2 := Lib.hid (HB1.out.trans (hb.mono HB1.out.size))
  clear hb HB1
  go_wp2_with fail
  refine (H2.out _).mono ?_
  rintro _ w3 ⟨rfl, hb⟩
  have HB3 := Lib.hid (HB2.out.trans (hb.mono HB2.out.size))
  clear hb HB2
  go_wp2_with fail
  refine (H3.out _).mono ?_
  rintro _ _ ⟨rfl, rfl⟩
  go_wp2_with fail
  refine (H4.out _).mono ?_
  rintro _ _ ⟨rfl, rfl⟩
  go_wp2_with fail
  refine (H5.out _).mono ?_
  rintro _ w4 ⟨rfl, hb⟩
  have HB4 := Lib.hid (HB3.out.trans (hb.mono HB3.out.size))
  clear hb HB3
  go_wp2_with fail
  refine (H6.out _).mono ?_
  rintro _ _ ⟨rfl, rfl⟩
  go_wp2_with fail
  refine (H7.out _).mono ?_
  rintro _ _ ⟨rfl, rfl⟩
  go_wp2_with fail
  go_ret
  exact ⟨rfl, HB4.out⟩
set_option maxRecDepth 100000 in
set_option maxHeartbeats 2000000 in
theorem never_2b (e a b n y U V P Q : Nat) (h0 : e < 18446744073709551616) (h1 : a < 18446744073709551616) (h2 : b < 18446744073709551616) (h3 : n < 4294967296) (hab : b < a) (kV : V ≤ n) (kP : P ≤ Q) (H1 : Hid (∀ w : World, Calls Try.prog 12 #[.int .u64 (e : Nat), .int .u64 (b : Nat)] w fun e w' => e = .returned (.int .u32 0) ∧ Below w.heap.size w w')) (H2 : Hid (∀ w : World, Calls Try.prog 12 #[.int .u64 (e : Nat), .int .u64 (a : Nat)] w fun e w' => e = .returned (.int .u32 0) ∧ Below w.heap.size w w')) (H3 : Hid (∀ w : World, Calls Try.prog 14 #[.int .u64 (e : Nat), .int .u64 (b : Nat)] w fun e w' => e = .returned (.bool false) ∧ w' = w)) (H4 : Hid (∀ w : World, Calls Try.prog 10 #[.int .u64 (a : Nat), .int .u32 (n : Nat)] w fun e w' => e = .returned (.int .u64 (U : Nat)) ∧ w' = w)) (H5 : Hid (∀ w : World, Calls Try.prog 12 #[.int .u64 (U : Nat), .int .u64 (a : Nat)] w fun e w' => e = .returned (.int .u32 (V : Nat)) ∧ Below w.heap.size w w')) (H6 : Hid (∀ w : World, Calls Try.prog 10 #[.int .u64 (b : Nat), .int .u32 (n : Nat)] w fun e w' => e = .returned (.int .u64 (P : Nat)) ∧ w' = w)) (H7 : Hid (∀ w : World, Calls Try.prog 10 #[.int .u64 (a : Nat), .int .u32 (n : Nat)] w fun e w' => e = .returned (.int .u64 (Q : Nat)) ∧ w' = w)) (w : World) : Calls Try.prog 6 #[.int .u64 (e : Nat), .int .u64 (a : Nat), .int .u64 (b : Nat), .int .u32 (n : Nat)] w fun e w' => e = .returned (.bool true) ∧ Below w.heap.size w w' := by
  go_enter Try.func6, Try.ntmps6
  go_wp2_with fail
  refine (shown_any _).mono ?_
  rintro _ w1 ⟨rfl, hb⟩
  have HB1 := Lib.hid hb
  clear hb
  go_wp2_with fail
  refine (H1.out _).mono ?_
  rintro _ w2 ⟨rfl, hb⟩
  have HB2 := Lib.hid (HB1.out.trans (hb.mono HB1.out.size))
  clear hb HB1
  go_wp2_with fail
  refine (H2.out _).mono ?_
  rintro _ w3 ⟨rfl, hb⟩
  have HB3 := Lib.hid (HB2.out.trans (hb.mono HB2.out.size))
  clear hb HB2
  go_wp2_with fail
  refine (H3.out _).mono ?_
  rintro _ _ ⟨rfl, rfl⟩
  go_wp2_with fail
  refine (H4.out _).mono ?_
  rintro _ _ ⟨rfl, rfl⟩
  go_wp2_with fail
  refine (H5.out _).mono ?_
  rintro _ w4 ⟨rfl, hb⟩
  have HB4 := Lib.hid (HB3.out.trans (hb.mono HB3.out.size))
  clear hb HB3
  go_wp2_with fail
  refine (H6.out _).mono ?_
  rintro _ _ ⟨rfl, rfl⟩
  go_wp2_with fail
  refine (H7.out _).mono ?_
  rintro _ _ ⟨rfl, rfl⟩
  go_wp2_with fail
  go_ret
  exact ⟨rfl, HB4.out⟩
set_option maxRecDepth 100000 in
set_option maxHeartbeats 2000000 in
theorem never_2c (e a n y U V P Q : Nat) (h0 : e < 18446744073709551616) (h1 : a < 18446744073709551616) (h3 : n < 4294967296)  (kV : V ≤ n) (kP : P ≤ Q) (H1 : Hid (∀ w : World, Calls Try.prog 12 #[.int .u64 (e : Nat), .int .u64 (a : Nat)] w fun e w' => e = .returned (.int .u32 0) ∧ Below w.heap.size w w')) (H2 : Hid (∀ w : World, Calls Try.prog 12 #[.int .u64 (e : Nat), .int .u64 (a : Nat)] w fun e w' => e = .returned (.int .u32 0) ∧ Below w.heap.size w w')) (H3 : Hid (∀ w : World, Calls Try.prog 14 #[.int .u64 (e : Nat), .int .u64 (a : Nat)] w fun e w' => e = .returned (.bool false) ∧ w' = w)) (H4 : Hid (∀ w : World, Calls Try.prog 10 #[.int .u64 (a : Nat), .int .u32 (n : Nat)] w fun e w' => e = .returned (.int .u64 (U : Nat)) ∧ w' = w)) (H5 : Hid (∀ w : World, Calls Try.prog 12 #[.int .u64 (U : Nat), .int .u64 (a : Nat)] w fun e w' => e = .returned (.int .u32 (V : Nat)) ∧ Below w.heap.size w w')) (H6 : Hid (∀ w : World, Calls Try.prog 10 #[.int .u64 (a : Nat), .int .u32 (n : Nat)] w fun e w' => e = .returned (.int .u64 (P : Nat)) ∧ w' = w)) (H7 : Hid (∀ w : World, Calls Try.prog 10 #[.int .u64 (a : Nat), .int .u32 (n : Nat)] w fun e w' => e = .returned (.int .u64 (Q : Nat)) ∧ w' = w)) (w : World) : Calls Try.prog 6 #[.int .u64 (e : Nat), .int .u64 (a : Nat), .int .u64 (a : Nat), .int .u32 (n : Nat)] w fun e w' => e = .returned (.bool true) ∧ Below w.heap.size w w' := by
  go_enter Try.func6, Try.ntmps6
  go_wp2_with fail
  refine (shown_any _).mono ?_
  rintro _ w1 ⟨rfl, hb⟩
  have HB1 := Lib.hid hb
  clear hb
  go_wp2_with fail
  refine (H1.out _).mono ?_
  rintro _ w2 ⟨rfl, hb⟩
  have HB2 := Lib.hid (HB1.out.trans (hb.mono HB1.out.size))
  clear hb HB1
  go_wp2_with fail
  refine (H2.out _).mono ?_
  rintro _ w3 ⟨rfl, hb⟩
  have HB3 := Lib.hid (HB2.out.trans (hb.mono HB2.out.size))
  clear hb HB2
  go_wp2_with fail
  refine (H3.out _).mono ?_
  rintro _ _ ⟨rfl, rfl⟩
  go_wp2_with fail
  refine (H4.out _).mono ?_
  rintro _ _ ⟨rfl, rfl⟩
  go_wp2_with fail
  refine (H5.out _).mono ?_
  rintro _ w4 ⟨rfl, hb⟩
  have HB4 := Lib.hid (HB3.out.trans (hb.mono HB3.out.size))
  clear hb HB3
  go_wp2_with fail
  refine (H6.out _).mono ?_
  rintro _ _ ⟨rfl, rfl⟩
  go_wp2_with fail
  refine (H7.out _).mono ?_
  rintro _ _ ⟨rfl, rfl⟩
  go_wp2_with fail
  go_ret
  exact ⟨rfl, HB4.out⟩
theorem lefN_mono {e f l : Nat} (h : f ≤ l) : lefN e l ≤ lefN e f := by
  by_cases h1 : e ≤ l
  · rw [show lefN e l = 0 from if_pos h1]; exact Nat.zero_le _
  · rw [lefN_min (by omega), lefN_min (by omega)]
    omega
theorem lefN_pos {e f : Nat} (h : f < e) : ¬ lefN e f = 0 := by
  unfold lefN
  rw [if_neg (by omega)]
  split <;> omega
theorem lefN_unt {a n : Nat} (h1 : a < 18446744073709551616) (h3 : n < 4294967296) : lefN (untN a n) a ≤ n := by
  have : untN a n ≤ a + n := by unfold untN; split <;> omega
  generalize untN a n = U at *
  unfold lefN
  split
  · exact Nat.zero_le _
  · split <;> omega
theorem untN_mono {f l n : Nat} (h : f ≤ l) (hl : l < 18446744073709551616) : untN f n ≤ untN l n := by
  unfold untN
  split
  · split <;> omega
  · rw [if_neg (by omega)]; exact Nat.le_refl _
theorem z_ne {x : Nat} (h : ¬ x = 0) : ((x : Int) == 0) = false := by
  rw [beq_eq_false_iff_ne]
  omega
theorem never_walk (e a b n : Nat) (h0 : e < 18446744073709551616) (h1 : a < 18446744073709551616) (h2 : b < 18446744073709551616) (h3 : n < 4294967296) (w : World) : Calls Try.prog 6 #[.int .u64 (e : Nat), .int .u64 (a : Nat), .int .u64 (b : Nat), .int .u32 (n : Nat)] w fun e w' => e = .returned (.bool true) ∧ Below w.heap.size w w' := by
  have K := fun (f l : Nat) (hf2 : f < 18446744073709551616) (hl2 : l < 18446744073709551616) => And.intro (fun w => left_any e f h0 hf2 w) (And.intro (fun w => left_any e l h0 hl2 w) (And.intro (fun w => live_any e f w) (And.intro (fun w => until_any f n hf2 h3 w) (fun w => until_any l n hl2 h3 w))))
  have H4 := fun w => until_any a n h1 h3 w
  have H5 := fun w => left_any (untN a n) a (untN_lt h1) h1 w
  have kV := lefN_unt h1 h3
  rcases Nat.lt_trichotomy a b with hab | rfl | hab
  · obtain ⟨H1, H2, H3, H6, H7⟩ := K a b h1 h2
    have kP := untN_mono (n := n) (show a ≤ b by omega) h2
    by_cases hx : a < e
    · rw [show decide (a < e) = true from decide_eq_true hx] at H3
      exact never_1a (lefN e a) e a b n (lefN e b) _ _ _ _ h0 h1 h2 h3 hab kV kP (z_ne (lefN_pos hx)) (lefN_mono (by omega)) (Lib.hid H1) (Lib.hid H2) (Lib.hid H3) (Lib.hid H4) (Lib.hid H5) (Lib.hid H6) (Lib.hid H7) w
    · rw [show decide (a < e) = false from decide_eq_false hx] at H3
      rw [show lefN e a = 0 from if_pos (by omega)] at H1
      rw [show lefN e b = 0 from if_pos (by omega)] at H2
      exact never_2a e a b n 0 _ _ _ _ h0 h1 h2 h3 hab kV kP (Lib.hid H1) (Lib.hid H2) (Lib.hid H3) (Lib.hid H4) (Lib.hid H5) (Lib.hid H6) (Lib.hid H7) w
  · obtain ⟨H1, H2, H3, H6, H7⟩ := K a a h1 h1
    have kP := untN_mono (n := n) (show a ≤ a by omega) h1
    by_cases hx : a < e
    · rw [show decide (a < e) = true from decide_eq_true hx] at H3
      exact never_1c (lefN e a) e a n (lefN e a) _ _ _ _ h0 h1 h3  kV kP (z_ne (lefN_pos hx)) (lefN_mono (by omega)) (Lib.hid H1) (Lib.hid H2) (Lib.hid H3) (Lib.hid H4) (Lib.hid H5) (Lib.hid H6) (Lib.hid H7) w
    · rw [show decide (a < e) = false from decide_eq_false hx] at H3
      rw [show lefN e a = 0 from if_pos (by omega)] at H1
      rw [show lefN e a = 0 from if_pos (by omega)] at H2
      exact never_2c e a n 0 _ _ _ _ h0 h1 h3  kV kP (Lib.hid H1) (Lib.hid H2) (Lib.hid H3) (Lib.hid H4) (Lib.hid H5) (Lib.hid H6) (Lib.hid H7) w
  · obtain ⟨H1, H2, H3, H6, H7⟩ := K b a h2 h1
    have kP := untN_mono (n := n) (show b ≤ a by omega) h1
    by_cases hx : b < e
    · rw [show decide (b < e) = true from decide_eq_true hx] at H3
      exact never_1b (lefN e b) e a b n (lefN e a) _ _ _ _ h0 h1 h2 h3 hab kV kP (z_ne (lefN_pos hx)) (lefN_mono (by omega)) (Lib.hid H1) (Lib.hid H2) (Lib.hid H3) (Lib.hid H4) (Lib.hid H5) (Lib.hid H6) (Lib.hid H7) w
    · rw [show decide (b < e) = false from decide_eq_false hx] at H3
      rw [show lefN e b = 0 from if_pos (by omega)] at H1
      rw [show lefN e a = 0 from if_pos (by omega)] at H2
      exact never_2b e a b n 0 _ _ _ _ h0 h1 h2 h3 hab kV kP (Lib.hid H1) (Lib.hid H2) (Lib.hid H3) (Lib.hid H4) (Lib.hid H5) (Lib.hid H6) (Lib.hid H7) w
theorem never_walkI (a0 : Int) (a1 : Int) (a2 : Int) (a3 : Int) (w0 : (Lit.int .u64 a0).wf = true) (w1 : (Lit.int .u64 a1).wf = true) (w2 : (Lit.int .u64 a2).wf = true) (w3 : (Lit.int .u32 a3).wf = true) (w : World) :
    Calls Try.prog 6 #[.int .u64 a0, .int .u64 a1, .int .u64 a2, .int .u32 a3] w fun e w' => e = .returned (.bool true) ∧ Below w.heap.size w w' := by
  obtain ⟨k0, rfl, h0⟩ := nat_u64 w0
  obtain ⟨k1, rfl, h1⟩ := nat_u64 w1
  obtain ⟨k2, rfl, h2⟩ := nat_u64 w2
  obtain ⟨k3, rfl, h3⟩ := nat_u32 w3
  exact never_walk k0 k1 k2 k3 h0 h1 h2 h3 w
end Go.Proofs.Ytomhfjpjdgecpaa
