/- The walk of TtlTells. -/
import Derived.Test.YtomhfjpjdgecpaaTta
namespace Go.Proofs.Ytomhfjpjdgecpaa
open Go.RowKit
set_option linter.unusedVariables false

set_option maxRecDepth 100000 in
set_option maxHeartbeats 2000000 in
theorem tells_walk (now ex a m : Nat) (h1 : now < 18446744073709551616) (h2 : ex < 18446744073709551616) (h3 : a < 4294967296) (h4 : m < 4294967296) (w : World) :
    Calls Try.prog 3 #[.int .u64 (now : Nat), .int .u64 (ex : Nat), .int .u32 (a : Nat), .int .u32 (m : Nat)] w fun e w' => e = .returned (.bool true) ∧ Below w.heap.size w w' := by
  have H1 := Lib.hid (fun w => until_any now a h1 h3 w)
  have H2 := Lib.hid (fun w => funtil_any now a h1 h3 w)
  have H3 := Lib.hid (fun w => left_any ex now h2 h1 w)
  have H4 := Lib.hid (fun w => fleft_any ex now h2 h1 w)
  have H5 := Lib.hid (fun w => live_any ex now w)
  have H6 := Lib.hid (fun w => clamp_any a m h3 h4 w)
  have H7 := Lib.hid (fun w => fclamp_any a m h3 h4 w)
  generalize untN now a = u at *
  generalize lefN ex now = l at *
  generalize clpN a m = c at *
  go_enter Try.func3, Try.ntmps3
  go_wp2_with fail
  refine (shown_any _).mono ?_
  rintro _ w1 ⟨rfl, hb⟩
  have HB1 := Lib.hid hb
  clear hb
  go_wp2_with fail
  refine (H1.out _).mono ?_
  rintro _ _ ⟨rfl, rfl⟩
  go_wp2_with fail
  refine (H2.out _).mono ?_
  rintro _ _ ⟨rfl, rfl⟩
  go_wp2_with fail
  refine (H3.out _).mono ?_
  rintro _ w2 ⟨rfl, hb⟩
  have HB2 := Lib.hid (HB1.out.trans (hb.mono HB1.out.size))
  clear hb HB1
  go_wp2_with fail
  refine (H4.out _).mono ?_
  rintro _ _ ⟨rfl, rfl⟩
  go_wp2_with fail
  refine (H5.out _).mono ?_
  rintro _ _ ⟨rfl, rfl⟩
  go_wp2_with fail
  refine (H6.out _).mono ?_
  rintro _ w3 ⟨rfl, hb⟩
  have HB3 := Lib.hid (HB2.out.trans (hb.mono HB2.out.size))
  clear hb HB2
  go_wp2_with fail
  refine (H7.out _).mono ?_
  rintro _ _ ⟨rfl, rfl⟩
  go_wp2_with fail
  go_ret
  exact ⟨rfl, HB3.out⟩
theorem tells_walkI (a0 : Int) (a1 : Int) (a2 : Int) (a3 : Int) (w0 : (Lit.int .u64 a0).wf = true) (w1 : (Lit.int .u64 a1).wf = true) (w2 : (Lit.int .u32 a2).wf = true) (w3 : (Lit.int .u32 a3).wf = true) (w : World) :
    Calls Try.prog 3 #[.int .u64 a0, .int .u64 a1, .int .u32 a2, .int .u32 a3] w fun e w' => e = .returned (.bool true) ∧ Below w.heap.size w w' := by
  obtain ⟨k0, rfl, h0⟩ := nat_u64 w0
  obtain ⟨k1, rfl, h1⟩ := nat_u64 w1
  obtain ⟨k2, rfl, h2⟩ := nat_u32 w2
  obtain ⟨k3, rfl, h3⟩ := nat_u32 w3
  exact tells_walk k0 k1 k2 k3 h0 h1 h2 h3 w
end Go.Proofs.Ytomhfjpjdgecpaa
