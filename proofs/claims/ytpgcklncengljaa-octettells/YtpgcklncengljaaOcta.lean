/- Contracts of octet.shift and octet.Some: what each call returns, for every string and offset. -/
import Derived.Test.YtpgcklncengljaaRows
import Derived.WalkKit
import Derived.WalkSpells
import Derived.WalkLawsBesides
import Derived.Lib.Hide
namespace Go.Proofs.Ytpgcklncengljaa
open Go.RowKit

set_option maxHeartbeats 400000 in
theorem shift_any (i n : Int) (w : World) (h0 : 0 ≤ i) (h1 : i < n) (h2 : n ≤ 4) :
    Calls Try.prog 30 #[.int .i64 i, .int .i64 n] w fun e w' => e = .returned (.int .i64 (8 * (n - 1 - i))) ∧ w = w' := by
  go_enter Try.func30, Try.ntmps30
  go_wp2
  go_ret
  exact ⟨rfl, rfl⟩

set_option maxHeartbeats 400000 in
theorem some_yes (s : ByteArray) (p m : Int) (w : World) (hs : s.size ≤ maxLen) (h0 : 0 ≤ p) (h1 : 0 ≤ m) (h2 : p + m ≤ s.size) :
    Calls Try.prog 15 #[.string s, .int .i64 p, .int .i64 m] w fun e w' => e = .returned (.tuple #[.string (s.extract p.toNat (p + m).toNat), .int .i64 (p + m), .int .i64 0]) ∧ w = w' := by
  unfold maxLen at hs
  go_enter Try.func15, Try.ntmps15
  go_wp2
  go_ret3
  exact ⟨rfl, rfl⟩

set_option maxHeartbeats 400000 in
theorem some_no (s : ByteArray) (p m : Int) (w : World) (hs : s.size ≤ maxLen) (hp : p ≤ maxLen) (h : p < 0 ∨ m < 0 ∨ s.size < p + m) :
    Calls Try.prog 15 #[.string s, .int .i64 p, .int .i64 m] w fun e w' => e = .returned (.tuple #[.string ⟨#[]⟩, .int .i64 0, .int .i64 2]) ∧ w = w' := by
  unfold maxLen at hs hp
  by_cases a0 : p < 0
  · clear h
    go_enter Try.func15, Try.ntmps15
    go_wp2
    go_ret3
    exact ⟨rfl, rfl⟩
  by_cases a1 : m < 0
  · clear h
    go_enter Try.func15, Try.ntmps15
    go_wp2
    go_ret3
    exact ⟨rfl, rfl⟩
  have a2 : s.size - p < m := by omega
  clear h
  go_enter Try.func15, Try.ntmps15
  go_wp2
  go_ret3
  exact ⟨rfl, rfl⟩
end Go.Proofs.Ytpgcklncengljaa
