/- The wheel's order, a method value: its contract in whatever has grown behind the wheel. -/
import Derived.Test.YtjjanogfcfapcaaWqa
import Derived.Deep.RegionHeld3
namespace Go.Proofs.Ytjjanogfcfapcaa.W
open Go.RowKit Go.Shelf Go.Sort
open Go.Maps (Keyed)
set_option linter.unusedVariables false
/-- -1, 0 or 1. -/
def cmpZ (a b : Int) : Int := if a < b then -1 else if b < a then 1 else 0
set_option maxHeartbeats 1000000 in
theorem nanU (a : Nat) (w : World) : Calls Try.prog 80 #[.int .u64 (a : Nat)] w fun e w' => e = .returned (.bool false) ∧ w' = w := by
  go_enter Try.func80, Try.ntmps80
  go_wp2_with fail
  go_ret
  first | exact ⟨by simp, rfl⟩ | exact ⟨rfl, rfl⟩
set_option maxHeartbeats 1000000 in
theorem nanI (a : Int) (w : World) : Calls Try.prog 81 #[.int .i64 a] w fun e w' => e = .returned (.bool false) ∧ w' = w := by
  go_enter Try.func81, Try.ntmps81
  go_wp2_with fail
  go_ret
  first | exact ⟨by simp, rfl⟩ | exact ⟨rfl, rfl⟩
set_option maxHeartbeats 1000000 in
theorem cmpU (a b : Nat) (w : World) : Calls Try.prog 68 #[.int .u64 (a : Nat), .int .u64 (b : Nat)] w fun e w' => e = .returned (.int .i64 (cmpZ (a : Nat) (b : Nat))) ∧ w' = w := by
  have H1 := Lib.hid (nanU a w)
  have H2 := Lib.hid (nanU b w)
  obtain ⟨r, hr⟩ : ∃ r, cmpZ (a : Nat) (b : Nat) = r := ⟨_, rfl⟩
  rw [hr]
  have HR := Lib.hid hr
  clear hr
  by_cases h1 : a < b
  · have d1 : decide ((a : Int) < (b : Nat)) = true := by simp; omega
    have HG := Lib.hid (show (-1 : Int) = r from by rw [← HR.out]; unfold cmpZ; rw [if_pos (by omega)])
    clear HR
    go_enter Try.func68, Try.ntmps68
    go_wp2_with (first
      | (go_at_call 80; with_reducible (refine H1.out.mono ?_); rintro e w' ⟨rfl, rfl⟩)
      | (go_at_call 80; with_reducible (refine H2.out.mono ?_); rintro e w' ⟨rfl, rfl⟩)
      | fail)
    go_ret
    exact ⟨by have := HG.out; subst this; rfl, rfl⟩
  · have d1 : decide ((a : Int) < (b : Nat)) = false := by simp; omega
    by_cases h2 : b < a
    · have d2 : decide ((b : Int) < (a : Nat)) = true := by simp; omega
      have HG := Lib.hid (show (1 : Int) = r from by rw [← HR.out]; unfold cmpZ; rw [if_neg (by omega), if_pos (by omega)])
      clear HR
      go_enter Try.func68, Try.ntmps68
      go_wp2_with (first
        | (go_at_call 80; with_reducible (refine H1.out.mono ?_); rintro e w' ⟨rfl, rfl⟩)
        | (go_at_call 80; with_reducible (refine H2.out.mono ?_); rintro e w' ⟨rfl, rfl⟩)
        | fail)
      go_ret
      exact ⟨by have := HG.out; subst this; rfl, rfl⟩
    · have d2 : decide ((b : Int) < (a : Nat)) = false := by simp; omega
      have HG := Lib.hid (show (0 : Int) = r from by rw [← HR.out]; unfold cmpZ; rw [if_neg (by omega), if_neg (by omega)])
      clear HR
      go_enter Try.func68, Try.ntmps68
      go_wp2_with (first
        | (go_at_call 80; with_reducible (refine H1.out.mono ?_); rintro e w' ⟨rfl, rfl⟩)
        | (go_at_call 80; with_reducible (refine H2.out.mono ?_); rintro e w' ⟨rfl, rfl⟩)
        | fail)
      go_ret
      exact ⟨by have := HG.out; subst this; rfl, rfl⟩
set_option maxHeartbeats 1000000 in
theorem cmpI (a b : Int) (w : World) : Calls Try.prog 69 #[.int .i64 a, .int .i64 b] w fun e w' => e = .returned (.int .i64 (cmpZ a b)) ∧ w' = w := by
  have H1 := Lib.hid (nanI a w)
  have H2 := Lib.hid (nanI b w)
  obtain ⟨r, hr⟩ : ∃ r, cmpZ a b = r := ⟨_, rfl⟩
  rw [hr]
  have HR := Lib.hid hr
  clear hr
  by_cases h1 : a < b
  · have d1 : decide (a < b) = true := by simp; omega
    have HG := Lib.hid (show (-1 : Int) = r from by rw [← HR.out]; unfold cmpZ; rw [if_pos (by omega)])
    clear HR h1
    go_enter Try.func69, Try.ntmps69
    go_wp2_with (first
      | (go_at_call 81; with_reducible (refine H1.out.mono ?_); rintro e w' ⟨rfl, rfl⟩)
      | (go_at_call 81; with_reducible (refine H2.out.mono ?_); rintro e w' ⟨rfl, rfl⟩)
      | fail)
    go_ret
    exact ⟨by have := HG.out; subst this; rfl, rfl⟩
  · have d1 : decide (a < b) = false := by simp; omega
    by_cases h2 : b < a
    · have d2 : decide (b < a) = true := by simp; omega
      have HG := Lib.hid (show (1 : Int) = r from by rw [← HR.out]; unfold cmpZ; rw [if_neg (by omega), if_pos (by omega)])
      clear HR h1 h2
      go_enter Try.func69, Try.ntmps69
      go_wp2_with (first
        | (go_at_call 81; with_reducible (refine H1.out.mono ?_); rintro e w' ⟨rfl, rfl⟩)
        | (go_at_call 81; with_reducible (refine H2.out.mono ?_); rintro e w' ⟨rfl, rfl⟩)
        | fail)
      go_ret
      exact ⟨by have := HG.out; subst this; rfl, rfl⟩
    · have d2 : decide (b < a) = false := by simp; omega
      have HG := Lib.hid (show (0 : Int) = r from by rw [← HR.out]; unfold cmpZ; rw [if_neg (by omega), if_neg (by omega)])
      clear HR h1 h2
      go_enter Try.func69, Try.ntmps69
      go_wp2_with (first
        | (go_at_call 81; with_reducible (refine H1.out.mono ?_); rintro e w' ⟨rfl, rfl⟩)
        | (go_at_call 81; with_reducible (refine H2.out.mono ?_); rintro e w' ⟨rfl, rfl⟩)
        | fail)
      go_ret
      exact ⟨by have := HG.out; subst this; rfl, rfl⟩
/-- The first of two that is not 0. -/
def orZ (x y : Int) : Int := if x = 0 then y else x
set_option maxHeartbeats 1000000 in
theorem or_two (x y : Int) (b : Nat) (w : World) (h0 : w.cell? ⟨b, 0, none⟩ = some (.int .i64 x)) (h1 : w.cell? ⟨b, 1, none⟩ = some (.int .i64 y)) :
    Calls Try.prog 67 #[.slice (some ⟨b, 0, none⟩) 2 2] w fun e w' => e = .returned (.int .i64 (orZ x y)) ∧ w' = w := by
  obtain ⟨r, hr⟩ : ∃ r, orZ x y = r := ⟨_, rfl⟩
  rw [hr]
  have HR := Lib.hid hr
  clear hr
  by_cases hx : x = 0
  · have HG := Lib.hid (show y = r from by rw [← HR.out]; unfold orZ; rw [if_pos hx])
    subst hx
    clear HR
    by_cases hy : y = 0
    · subst hy
      go_enter Try.func67, Try.ntmps67
      go_wp2_with fail
      refine wp_loop_rounds 3 ?_
      rw [rounds_succ]
      go_wp2_with fail
      rw [rounds_succ]
      go_wp2_with fail
      rw [rounds_succ]
      go_wp2_with fail
      go_ret
      exact ⟨by have := HG.out; subst this; rfl, rfl⟩
    · have d1 : (y == 0) = false := by simpa using hy
      have d2 : decide (y = 0) = false := by simpa using hy
      have d3 : (y != 0) = true := by simpa using hy
      clear hy
      go_enter Try.func67, Try.ntmps67
      go_wp2_with fail
      refine wp_loop_rounds 3 ?_
      rw [rounds_succ]
      go_wp2_with fail
      rw [rounds_succ]
      go_wp2_with fail
      go_ret
      exact ⟨by have := HG.out; subst this; rfl, rfl⟩
  · have HG := Lib.hid (show x = r from by rw [← HR.out]; unfold orZ; rw [if_neg hx])
    have d1 : (x == 0) = false := by simpa using hx
    have d2 : decide (x = 0) = false := by simpa using hx
    have d3 : (x != 0) = true := by simpa using hx
    clear HR hx
    go_enter Try.func67, Try.ntmps67
    go_wp2_with fail
    refine wp_loop_rounds 3 ?_
    rw [rounds_succ]
    go_wp2_with fail
    go_ret
    exact ⟨by have := HG.out; subst this; rfl, rfl⟩
end Go.Proofs.Ytjjanogfcfapcaa.W
