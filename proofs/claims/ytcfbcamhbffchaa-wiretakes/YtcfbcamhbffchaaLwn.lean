/- The walk of derricklaw03.WireName: it returns true, whatever the arguments. -/
import Derived.Test.YtcfbcamhbffchaaWsh
namespace Go.Proofs.Ytcfbcamhbffchaa
open Go.RowKit
set_option linter.unusedVariables false

theorem take_self {n : ByteArray} (s : ByteArray) (hm : mayB n = true) : tkS (n ++ s) 0 = n ∧ tkX (n ++ s) 0 = n.size ∧ tkE (n ++ s) 0 = 0 := by
  have hn := may_name hm
  have hd : (n ++ s).data.toList.drop 0 = wire (labs n) ++ s.data.toList := by rw [List.drop_zero, ← hn.eq]; simp
  have h := tkB_wire (b := 0) (labs n) 0 _ hn.ok hd
  have hl : 0 + (wire (labs n)).length = n.size := by rw [← hn.eq, ba_len]; omega
  rw [hl] at h
  exact tk_name (p := 0) hm h
theorem empty_is (s : ByteArray) (h : s = ⟨#[]⟩) : (s.toList == []) = true ∧ s.toList.isEmpty = true := by subst h; rw [ByteArray.toList_eq]; exact ⟨rfl, rfl⟩
theorem self_is (s : ByteArray) : (s.toList == s.toList) = true := by simp

set_option maxRecDepth 100000 in
set_option maxHeartbeats 1000000 in
theorem name_walk (s : ByteArray) (p : Int) (n : ByteArray) (hs : s.size ≤ maxLen) (hp : (Lit.int .i64 p).wf = true) (hn : n.size ≤ maxLen) (w : World) :
    Calls Try.prog 6 #[.string s, .int .i64 p, .string n] w fun e w' => e = .returned (.bool true) ∧ Below w.heap.size w w' := by
  have hpm : p ≤ maxLen := by have := bounds_i64 hp; unfold maxLen; omega
  have hp0 := bounds_i64 hp
  clear hp
  unfold maxLen at hs hn
  by_cases c1 : 1000 < s.size
  · go_enter Try.func6, Try.ntmps6
    go_wp2_with fail
    refine (shown_any _).mono ?_; rintro e w1 ⟨rfl, hb1⟩
    go_wp2_with fail
    go_ret
    exact ⟨rfl, hb1⟩
  by_cases c2 : 400 < n.size
  · go_enter Try.func6, Try.ntmps6
    go_wp2_with fail
    refine (shown_any _).mono ?_; rintro e w1 ⟨rfl, hb1⟩
    go_wp2_with fail
    go_ret
    exact ⟨rfl, hb1⟩
  have hcs : (n ++ s).size ≤ 140737488355328 := by rw [ByteArray.size_append]; omega
  have hcat : ¬ 9223372036854775807 < n.size + s.size := by omega
  rcases tk_cases s p with ⟨e1, e2, e3⟩ | ⟨e1, e2, e3, e4⟩
  · cases hm : mayB n with
    | true =>
      obtain ⟨f1, f2, f3⟩ := take_self s hm
      go_enter Try.func6, Try.ntmps6
      go_wp2_with fail
      refine (shown_any _).mono ?_; rintro e w1 ⟨rfl, hb1⟩
      go_wp2_with fail
      refine (take_any s p (by omega) hpm _).mono ?_; rintro e w2 ⟨rfl, hb2⟩
      rw [e1, e2, e3]
      go_wp2_with fail
      refine (take_any (n ++ s) 0 hcs (by decide) _).mono ?_; rintro e w3 ⟨rfl, hb3⟩
      rw [f1, f2, f3]
      go_wp2_with fail
      refine (may_any n (by omega) _).mono ?_; rintro e w4 ⟨rfl, hb4⟩
      rw [hm]
      have hss := self_is n
      clear hm f1 f2 f3 e1 e2 e3
      go_wp2_with fail
      go_ret
      exact ⟨rfl, bthen (bthen (bthen hb1 hb2) hb3) hb4⟩
    | false =>
      go_enter Try.func6, Try.ntmps6
      go_wp2_with fail
      refine (shown_any _).mono ?_; rintro e w1 ⟨rfl, hb1⟩
      go_wp2_with fail
      refine (take_any s p (by omega) hpm _).mono ?_; rintro e w2 ⟨rfl, hb2⟩
      rw [e1, e2, e3]
      go_wp2_with fail
      refine (take_any (n ++ s) 0 hcs (by decide) _).mono ?_; rintro e w3 ⟨rfl, hb3⟩
      generalize tkS (n ++ s) 0 = x
      generalize tkX (n ++ s) 0 = y
      generalize tkE (n ++ s) 0 = z
      go_wp2_with fail
      refine (may_any n (by omega) _).mono ?_; rintro e w4 ⟨rfl, hb4⟩
      rw [hm]
      clear hm e1 e2 e3
      go_wp2_with fail
      go_ret
      exact ⟨rfl, bthen (bthen (bthen hb1 hb2) hb3) hb4⟩
  · have hts : (tkS s p).size ≤ 255 := (may_name e2).size
    have e5 : (tkX s p : Int) ≤ (s.size : Int) := by omega
    cases hm : mayB n with
    | true =>
      obtain ⟨f1, f2, f3⟩ := take_self s hm
      go_enter Try.func6, Try.ntmps6
      go_wp2_with fail
      refine (shown_any _).mono ?_; rintro e w1 ⟨rfl, hb1⟩
      go_wp2_with fail
      refine (take_any s p (by omega) hpm _).mono ?_; rintro e w2 ⟨rfl, hb2⟩
      rw [e1]
      generalize tkX s p = y0 at *
      go_wp2_with fail
      refine (may_any _ (by omega) _).mono ?_; rintro e w2a ⟨rfl, hb2a⟩
      rw [e2]
      clear e2
      go_wp2_with fail
      refine (take_any (n ++ s) 0 hcs (by decide) _).mono ?_; rintro e w3 ⟨rfl, hb3⟩
      rw [f1, f2, f3]
      go_wp2_with fail
      refine (may_any n (by omega) _).mono ?_; rintro e w4 ⟨rfl, hb4⟩
      rw [hm]
      have hss := self_is n
      clear hm f1 f2 f3 e1
      go_wp2_with fail
      go_ret
      exact ⟨rfl, bthen (bthen (bthen (bthen hb1 hb2) hb2a) hb3) hb4⟩
    | false =>
      go_enter Try.func6, Try.ntmps6
      go_wp2_with fail
      refine (shown_any _).mono ?_; rintro e w1 ⟨rfl, hb1⟩
      go_wp2_with fail
      refine (take_any s p (by omega) hpm _).mono ?_; rintro e w2 ⟨rfl, hb2⟩
      rw [e1]
      generalize tkX s p = y0 at *
      go_wp2_with fail
      refine (may_any _ (by omega) _).mono ?_; rintro e w2a ⟨rfl, hb2a⟩
      rw [e2]
      clear e2
      go_wp2_with fail
      refine (take_any (n ++ s) 0 hcs (by decide) _).mono ?_; rintro e w3 ⟨rfl, hb3⟩
      generalize tkS (n ++ s) 0 = x
      generalize tkX (n ++ s) 0 = y
      generalize tkE (n ++ s) 0 = z
      go_wp2_with fail
      refine (may_any n (by omega) _).mono ?_; rintro e w4 ⟨rfl, hb4⟩
      rw [hm]
      clear hm e1
      go_wp2_with fail
      go_ret
      exact ⟨rfl, bthen (bthen (bthen (bthen hb1 hb2) hb2a) hb3) hb4⟩
end Go.Proofs.Ytcfbcamhbffchaa
