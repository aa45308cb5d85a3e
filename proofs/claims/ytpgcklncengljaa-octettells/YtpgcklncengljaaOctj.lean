/- Contracts of derrickref01: there, U8, U16, U32, Some, Put16 and Put32. -/
import Derived.Test.YtpgcklncengljaaOcti
namespace Go.Proofs.Ytpgcklncengljaa
open Go.RowKit
set_option linter.unusedVariables false

def okB (s : ByteArray) (p m : Int) : Bool := decide (0 ≤ p ∧ 0 ≤ m ∧ p + m ≤ s.size)
theorem okB_yes {s : ByteArray} {p m : Int} (h : okS s p m) : okB s p m = true := by unfold okS at h; simp [okB, h]
theorem okB_no {s : ByteArray} {p m : Int} (h : ¬ okS s p m) : okB s p m = false := by unfold okS at h; simpa [okB] using h
theorem wrapsum16 (a b : UInt8) : IntKind.u16.wrap (IntKind.u16.wrap (256 * IntKind.u16.wrap (a.toNat : Int)) + IntKind.u16.wrap (b.toNat : Int)) = 256 * (a.toNat : Int) + b.toNat := by
  have ha := a.toNat_lt
  have hb := b.toNat_lt
  rw [byte_u16, byte_u16, IntWalk.u16_in (256 * _) (by omega), IntWalk.u16_in _ (by omega)]
theorem bnum_at1 (s : ByteArray) (p : Int) (h0 : 0 ≤ p) (h1 : p + 1 ≤ s.size) : bnum (s.extract p.toNat (p + 1).toNat) = (s[p.toNat]'(by omega)).toNat := by
  have e : (s.extract p.toNat (p + 1).toNat).data.toList = [s[p.toNat]'(by omega)] := by
    rw [extract_list]
    have e2 : (p + 1).toNat = p.toNat + 1 := by omega
    rw [e2, List.take_succ_eq_append_getElem (by simp; omega), List.drop_append, List.drop_of_length_le (by simp; omega)]
    have e3 : p.toNat - (s.data.toList.take p.toNat).length = 0 := by simp; omega
    rw [e3]
    rfl
  unfold bnum
  rw [e]
  simp [num]
theorem bnum_at2 (s : ByteArray) (p : Int) (h0 : 0 ≤ p) (h1 : p + 2 ≤ s.size) : bnum (s.extract p.toNat (p + 2).toNat) = 256 * ((s[p.toNat]'(by omega)).toNat : Int) + (s[p.toNat + 1]'(by omega)).toNat := by
  have hj : s.extract p.toNat (p + 2).toNat = s.extract p.toNat (p + 1).toNat ++ s.extract (p + 1).toNat (p + 1 + 1).toNat := by
    rw [ByteArray.extract_append_extract]
    congr 1 <;> omega
  have z2 : (s.extract (p + 1).toNat (p + 1 + 1).toNat).size = 1 := by rw [ByteArray.size_extract]; omega
  rw [hj, bnum_append, bnum_at1 s p h0 (by omega), bnum_at1 s (p + 1) (by omega) (by omega), z2]
  have e : (p + 1).toNat = p.toNat + 1 := by omega
  simp only [e]
  omega

set_option maxHeartbeats 400000 in
theorem there_any (s : ByteArray) (p m : Int) (w : World) (hs : s.size ≤ 2000) :
    Calls Try.prog 22 #[.string s, .int .i64 p, .int .i64 m] w fun e w' => e = .returned (.bool (okB s p m)) ∧ w = w' := by
  by_cases h0 : 0 ≤ p
  · by_cases h1 : p ≤ s.size
    · by_cases h2 : 0 ≤ m
      · by_cases h3 : m ≤ s.size
        · have hb : okB s p m = decide (p + m ≤ (s.size : Int)) := by simp only [okB]; simp [h0, h2]
          rw [hb]
          go_enter Try.func22, Try.ntmps22
          go_wp2
          go_ret
          exact ⟨rfl, rfl⟩
        · have hb : okB s p m = false := by simp only [okB]; simp; omega
          rw [hb]
          have d : decide (m ≤ (s.size : Int)) = false := by simpa using h3
          go_enter Try.func22, Try.ntmps22
          go_wp2
          go_ret
          exact ⟨rfl, rfl⟩
      · have hb : okB s p m = false := by simp only [okB]; simp; omega
        rw [hb]
        have d : decide (0 ≤ m) = false := by simpa using h2
        go_enter Try.func22, Try.ntmps22
        go_wp2
        go_ret
        exact ⟨rfl, rfl⟩
    · have hb : okB s p m = false := by simp only [okB]; simp; omega
      rw [hb]
      have d : decide (p ≤ (s.size : Int)) = false := by simpa using h1
      go_enter Try.func22, Try.ntmps22
      go_wp2
      go_ret
      exact ⟨rfl, rfl⟩
  · have hb : okB s p m = false := by simp only [okB]; simp; omega
    rw [hb]
    have d : decide (0 ≤ p) = false := by simpa using h0
    go_enter Try.func22, Try.ntmps22
    go_wp2
    go_ret
    exact ⟨rfl, rfl⟩

set_option maxHeartbeats 400000 in
theorem ru8_any (s : ByteArray) (p : Int) (w : World) (hs : s.size ≤ 2000) :
    Calls Try.prog 10 #[.string s, .int .i64 p] w fun e w' => e = .returned (.tuple #[.int .u8 (un s p 1), .int .i64 (so s p 1), .int .i64 (se s p 1)]) ∧ w = w' := by
  by_cases h : okS s p 1
  · have hb : okB s p 1 = true := okB_yes h
    simp only [un, so, se, if_pos h]
    obtain ⟨p0, _, p1⟩ := h
    go_enter Try.func10, Try.ntmps10
    go_wp2_with (go_at_call 22; refine (there_any s p 1 _ hs).mono ?_; rintro e w1 ⟨rfl, rfl⟩)
    go_ret3
    exact ⟨by rw [bnum_at1 s p p0 p1]; rfl, rfl⟩
  · have hb : okB s p 1 = false := okB_no h
    simp only [un, so, se, if_neg h]
    clear h
    go_enter Try.func10, Try.ntmps10
    go_wp2_with (go_at_call 22; refine (there_any s p 1 _ hs).mono ?_; rintro e w1 ⟨rfl, rfl⟩)
    go_ret3
    exact ⟨rfl, rfl⟩

set_option maxHeartbeats 400000 in
theorem ru16_any (s : ByteArray) (p : Int) (w : World) (hs : s.size ≤ 2000) :
    Calls Try.prog 12 #[.string s, .int .i64 p] w fun e w' => e = .returned (.tuple #[.int .u16 (un s p 2), .int .i64 (so s p 2), .int .i64 (se s p 2)]) ∧ Below w.heap.size w w' := by
  by_cases h : okS s p 2
  · have hb : okB s p 2 = true := okB_yes h
    simp only [un, so, se, if_pos h]
    obtain ⟨p0, _, p1⟩ := h
    have q1 : p < s.size := by omega
    have q2 : p + 1 < s.size := by omega
    have q3 : 0 ≤ p + 1 := by omega
    have q4 : (p + 1).toNat = p.toNat + 1 := by omega
    have q5 : IntKind.i64.wrap (p + 1) = p + 1 := IntWalk.i64_in _ (by omega)
    have q6 : IntKind.i64.wrap (p + 2) = p + 2 := IntWalk.i64_in _ (by omega)
    go_enter Try.func12, Try.ntmps12
    go_wp2_with (go_at_call 22; refine (there_any s p 2 _ hs).mono ?_; rintro e w1 ⟨rfl, rfl⟩)
    go_quiet (fail)
    go_wp2
    go_ret3
    exact ⟨by rw [bnum_at2 s p p0 p1, ← wrapsum16]; rfl, below_drewN (Below.refl _ _) nq⟩
  · have hb : okB s p 2 = false := okB_no h
    simp only [un, so, se, if_neg h]
    clear h
    go_enter Try.func12, Try.ntmps12
    go_wp2_with (go_at_call 22; refine (there_any s p 2 _ hs).mono ?_; rintro e w1 ⟨rfl, rfl⟩)
    go_ret3
    exact ⟨rfl, Below.refl _ _⟩

theorem un_lt16 (s : ByteArray) (p : Int) : 0 ≤ un s p 2 ∧ un s p 2 ≤ 65535 := by
  unfold un
  split
  · rename_i h
    have hb := bnum_lt (s.extract p.toNat (p + 2).toNat)
    have hz : (s.extract p.toNat (p + 2).toNat).size = 2 := by unfold okS at h; rw [ByteArray.size_extract]; omega
    rw [hz] at hb
    have e : (256 : Int) ^ 2 = 65536 := rfl
    omega
  · omega
theorem un_four (s : ByteArray) (p : Int) (h0 : 0 ≤ p) (h1 : p + 4 ≤ s.size) : un s p 4 = 65536 * un s p 2 + un s (p + 2) 2 := by
  have h := un_halves s p h0 h1
  have a := un_lt16 s p
  have b := un_lt16 s (p + 2)
  omega

set_option maxHeartbeats 400000 in
theorem ru32_any (s : ByteArray) (p : Int) (w : World) (hs : s.size ≤ 2000) :
    Calls Try.prog 14 #[.string s, .int .i64 p] w fun e w' => e = .returned (.tuple #[.int .u32 (un s p 4), .int .i64 (so s p 4), .int .i64 (se s p 4)]) ∧ Below w.heap.size w w' := by
  by_cases h : okS s p 4
  · have hb : okB s p 4 = true := okB_yes h
    have u1 : un s p 4 = 65536 * un s p 2 + un s (p + 2) 2 := un_four s p h.1 h.2.2
    have o1 : so s p 4 = p + 4 := if_pos h
    have e1 : se s p 4 = 0 := if_pos h
    have o2 : so s p 2 = p + 2 := if_pos (by unfold okS at *; omega)
    have o3 : so s (p + 2) 2 = p + 2 + 2 := if_pos (by unfold okS at *; omega)
    rw [u1, o1, e1]
    have b1 := un_lt16 s p
    have b2 := un_lt16 s (p + 2)
    clear u1 o1 e1 h
    have O2 := Lib.hid o2
    have O3 := Lib.hid o3
    clear o2 o3
    go_enter Try.func14, Try.ntmps14
    go_wp2_with fail
    refine (there_any s p 4 _ hs).mono ?_; rintro e w1 ⟨rfl, rfl⟩
    go_wp2_with fail
    refine (ru16_any s p _ hs).mono ?_; rintro e w1 ⟨rfl, hb1⟩
    go_wp2_with fail
    rw [O2.out]
    refine (ru16_any s (p + 2) _ hs).mono ?_; rintro e w2 ⟨rfl, hb2⟩
    rw [O3.out]
    go_wp2_with fail
    go_ret3
    have e4 : p + 2 + 2 = p + 4 := by omega
    exact ⟨by rw [← e4]; rfl, bthen hb1 hb2⟩
  · have hb : okB s p 4 = false := okB_no h
    simp only [un, so, se, if_neg h]
    clear h
    go_enter Try.func14, Try.ntmps14
    go_wp2_with (go_at_call 22; refine (there_any s p 4 _ hs).mono ?_; rintro e w1 ⟨rfl, rfl⟩)
    go_ret3
    exact ⟨rfl, Below.refl _ _⟩
end Go.Proofs.Ytpgcklncengljaa
