/- derricklaw12.ShardPlays: what a deed keeps; numbers that may not be (written by tools/gen_vdv.py). -/
import Derived.Test.YtjjanogfcfapcaaVdu
namespace Go.Proofs.Ytjjanogfcfapcaa.D
open Go.RowKit
set_option linter.unusedVariables false
theorem freeAll_len : ∀ (is : List W.Ti) (c : List (Ce En)), (freeAll c is).length = c.length
  | [], c => rfl
  | x :: r, c => by
    have := freeAll_len r (c.set x.id.toNat Z0)
    rw [List.length_set] at this
    exact this
theorem putS_len (S : Sd) (e : En) : (putS S e).P.c.length = S.P.c.length := by
  unfold putS
  split
  · simp [storeS]
  · rfl
theorem roomS_len {S : Sd} (ok : S.Ok) (now : Nat) : (roomS S now).1.P.c.length = S.P.c.length := by
  unfold roomS
  split
  · rfl
  · split
    · show ((vicM S.P).1.c.set _ Z0).length = _
      rw [List.length_set, vicM_len ok.ok]
    · exact freeAll_len _ _
theorem doS_len {S : Sd} (ok : S.Ok) (D : Dd) : (doS S D).P.c.length = S.P.c.length := by
  unfold doS
  split
  · unfold insS
    split
    · rfl
    · split
      · split
        · simp [storeS]
        · rfl
      · show (putS (roomS S D.now).1 D.x.e).P.c.length = _
        rw [putS_len, roomS_len ok]
  · split
    · unfold lookS
      split
      · split
        · simp [touchS]
        · rfl
      · rfl
    · split
      · unfold evS
        split
        · simp [freeS]
        · rfl
      · exact freeAll_len _ _
theorem keys_le {S : Sd} (ok : S.Ok) : (keysOf S.P.c).length ≤ 1000 := by
  rw [keys_len]
  have h1 := cnt_le S.P.c
  have h2 := ok.ok.n64
  omega

set_option maxRecDepth 100000 in
set_option maxHeartbeats 1000000 in
theorem bad_a (zr zs : Int) (v : Value) (h1 : zr < 1) (w : World) (HN : ∀ W, Calls Try.prog 10 #[.int .i64 zr, .int .i64 zs] W fun e w' => e = .returned (.pointer none) ∧ Below W.heap.size W w') : Calls Try.prog 3 #[.int .i64 zr, .int .i64 zs, v] w fun e w' => e = .returned (.bool true) ∧ Below w.heap.size w w' := by
  have f0 : decide (zr < 1) = true := by simp; omega
  have g0 : zr < 1 := by omega
  have HS := Lib.hid (shown_any w)
  have HM := Lib.hid HN
  clear HN
  go_enter Try.func3, Try.ntmps3
  go_wp2_with (first | (go_at_call 9; with_reducible (refine HS.out.mono ?_); rintro e w1 ⟨rfl, hb1⟩; have HB1 := Lib.hid hb1; clear hb1) | (go_at_call 10; with_reducible (refine (HM.out _).mono ?_); rintro e w2 ⟨rfl, hb2⟩; have HB2 := Lib.hid (HB1.out.trans (hb2.mono HB1.out.size)); clear hb2))
  go_ret
  exact ⟨rfl, HB2.out⟩

set_option maxRecDepth 100000 in
set_option maxHeartbeats 1000000 in
theorem bad_b (zr zs : Int) (v : Value) (h1 : 64 < zr) (w : World) (HN : ∀ W, Calls Try.prog 10 #[.int .i64 zr, .int .i64 zs] W fun e w' => e = .returned (.pointer none) ∧ Below W.heap.size W w') : Calls Try.prog 3 #[.int .i64 zr, .int .i64 zs, v] w fun e w' => e = .returned (.bool true) ∧ Below w.heap.size w w' := by
  have f0 : decide (zr < 1) = false := by simp; omega
  have g0 : ¬ (zr < 1) := by omega
  have f1 : decide (64 < zr) = true := by simp; omega
  have g1 : 64 < zr := by omega
  have HS := Lib.hid (shown_any w)
  have HM := Lib.hid HN
  clear HN
  go_enter Try.func3, Try.ntmps3
  go_wp2_with (first | (go_at_call 9; with_reducible (refine HS.out.mono ?_); rintro e w1 ⟨rfl, hb1⟩; have HB1 := Lib.hid hb1; clear hb1) | (go_at_call 10; with_reducible (refine (HM.out _).mono ?_); rintro e w2 ⟨rfl, hb2⟩; have HB2 := Lib.hid (HB1.out.trans (hb2.mono HB1.out.size)); clear hb2))
  go_ret
  exact ⟨rfl, HB2.out⟩

set_option maxRecDepth 100000 in
set_option maxHeartbeats 1000000 in
theorem bad_c (zr zs : Int) (v : Value) (h1 : 1 ≤ zr) (h2 : zr ≤ 64) (h3 : zs < 1) (w : World) (HN : ∀ W, Calls Try.prog 10 #[.int .i64 zr, .int .i64 zs] W fun e w' => e = .returned (.pointer none) ∧ Below W.heap.size W w') : Calls Try.prog 3 #[.int .i64 zr, .int .i64 zs, v] w fun e w' => e = .returned (.bool true) ∧ Below w.heap.size w w' := by
  have f0 : decide (zr < 1) = false := by simp; omega
  have g0 : ¬ (zr < 1) := by omega
  have f1 : decide (64 < zr) = false := by simp; omega
  have g1 : ¬ (64 < zr) := by omega
  have f2 : decide (zs < 1) = true := by simp; omega
  have g2 : zs < 1 := by omega
  have HS := Lib.hid (shown_any w)
  have HM := Lib.hid HN
  clear HN
  go_enter Try.func3, Try.ntmps3
  go_wp2_with (first | (go_at_call 9; with_reducible (refine HS.out.mono ?_); rintro e w1 ⟨rfl, hb1⟩; have HB1 := Lib.hid hb1; clear hb1) | (go_at_call 10; with_reducible (refine (HM.out _).mono ?_); rintro e w2 ⟨rfl, hb2⟩; have HB2 := Lib.hid (HB1.out.trans (hb2.mono HB1.out.size)); clear hb2))
  go_ret
  exact ⟨rfl, HB2.out⟩

set_option maxRecDepth 100000 in
set_option maxHeartbeats 1000000 in
theorem bad_d (zr zs : Int) (v : Value) (h1 : 1 ≤ zr) (h2 : zr ≤ 64) (h3 : 256 < zs) (w : World) (HN : ∀ W, Calls Try.prog 10 #[.int .i64 zr, .int .i64 zs] W fun e w' => e = .returned (.pointer none) ∧ Below W.heap.size W w') : Calls Try.prog 3 #[.int .i64 zr, .int .i64 zs, v] w fun e w' => e = .returned (.bool true) ∧ Below w.heap.size w w' := by
  have f0 : decide (zr < 1) = false := by simp; omega
  have g0 : ¬ (zr < 1) := by omega
  have f1 : decide (64 < zr) = false := by simp; omega
  have g1 : ¬ (64 < zr) := by omega
  have f2 : decide (zs < 1) = false := by simp; omega
  have g2 : ¬ (zs < 1) := by omega
  have f3 : decide (256 < zs) = true := by simp; omega
  have g3 : 256 < zs := by omega
  have HS := Lib.hid (shown_any w)
  have HM := Lib.hid HN
  clear HN
  go_enter Try.func3, Try.ntmps3
  go_wp2_with (first | (go_at_call 9; with_reducible (refine HS.out.mono ?_); rintro e w1 ⟨rfl, hb1⟩; have HB1 := Lib.hid hb1; clear hb1) | (go_at_call 10; with_reducible (refine (HM.out _).mono ?_); rintro e w2 ⟨rfl, hb2⟩; have HB2 := Lib.hid (HB1.out.trans (hb2.mono HB1.out.size)); clear hb2))
  go_ret
  exact ⟨rfl, HB2.out⟩
end Go.Proofs.Ytjjanogfcfapcaa.D
