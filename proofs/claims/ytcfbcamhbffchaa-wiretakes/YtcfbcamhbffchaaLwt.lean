/- The walk of derricklaw03.WireTakes: it returns true, whatever the arguments. -/
import Derived.Test.YtcfbcamhbffchaaWru
namespace Go.Proofs.Ytcfbcamhbffchaa
open Go.RowKit
set_option linter.unusedVariables false

set_option maxRecDepth 100000 in
set_option maxHeartbeats 1000000 in
theorem rtake_neg (s : ByteArray) (p : Int) (hp : p < 0) (w : World) :
    Calls Try.prog 20 #[.string s, .int .i64 p] w fun e w' => e = .returned (.tuple #[.string ⟨#[]⟩, .int .i64 0, .int .i64 2]) ∧ Below w.heap.size w w' := by
  go_enter Try.func20, Try.ntmps20
  go_wp2_with fail
  refine wp_loop_rounds 1 ?_
  rw [rounds_succ]
  go_wp2_with fail
  refine (rlabels_neg s p hp _).mono ?_
  rintro e w1 ⟨rfl, rfl⟩
  go_wp2_with fail
  go_ret3
  exact ⟨rfl, Below.refl _ _⟩
theorem rtake_any (s : ByteArray) (p : Int) (hs : s.size ≤ 1000) (hp : p ≤ maxLen) (w : World) :
    Calls Try.prog 20 #[.string s, .int .i64 p] w fun e w' => e = .returned (.tuple #[.string (tkS s p), .int .i64 (tkX s p : Nat), .int .i64 (tkE s p : Nat)]) ∧ Below w.heap.size w w' := by
  by_cases h : 0 ≤ p
  · have h1 := rtake_nat s p.toNat hs (by omega) w
    rw [show ((p.toNat : Nat) : Int) = p by omega] at h1
    exact h1
  · obtain ⟨r1, r2, r3⟩ := tk_none (s := s) (p := p) (.inl (by omega))
    rw [r1, r2, r3]
    exact rtake_neg s p (by omega) w

set_option maxRecDepth 100000 in
set_option maxHeartbeats 1000000 in
theorem takes_walk (s : ByteArray) (p : Int) (hs : s.size ≤ maxLen) (hp : (Lit.int .i64 p).wf = true) (w : World) :
    Calls Try.prog 4 #[.string s, .int .i64 p] w fun e w' => e = .returned (.bool true) ∧ Below w.heap.size w w' := by
  have hpm : p ≤ maxLen := by have := bounds_i64 hp; unfold maxLen; omega
  clear hp
  unfold maxLen at hs
  by_cases c1 : 1000 < s.size
  · go_enter Try.func4, Try.ntmps4
    go_wp2_with fail
    refine (shown_any _).mono ?_; rintro e w1 ⟨rfl, hb1⟩
    go_wp2_with fail
    go_ret
    exact ⟨rfl, hb1⟩
  go_enter Try.func4, Try.ntmps4
  go_wp2_with fail
  refine (shown_any _).mono ?_; rintro e w1 ⟨rfl, hb1⟩
  go_wp2_with fail
  refine (take_any s p (by omega) hpm _).mono ?_; rintro e w2 ⟨rfl, hb2⟩
  go_wp2_with fail
  refine (rtake_any s p (by omega) hpm _).mono ?_; rintro e w3 ⟨rfl, hb3⟩
  generalize tkS s p = x
  generalize tkX s p = y
  generalize tkE s p = z
  have hss := self_is x
  go_wp2_with fail
  go_ret
  exact ⟨rfl, bthen (bthen hb1 hb2) hb3⟩
end Go.Proofs.Ytcfbcamhbffchaa
