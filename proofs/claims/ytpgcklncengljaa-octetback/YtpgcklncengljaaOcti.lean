/- The walk of derricklaw01.OctetBack: it returns true, whatever the arguments. -/
import Derived.Test.YtpgcklncengljaaOcth
import Derived.Test.YtpgcklncengljaaOctf
namespace Go.Proofs.Ytpgcklncengljaa
open Go.RowKit
set_option linter.unusedVariables false

theorem bthen {a b c : World} (h : Below a.heap.size a b) (k : Below b.heap.size b c) : Below a.heap.size a c := h.trans (k.mono h.size)
theorem balloc {a b : World} (h : Below a.heap.size a b) (o : Obj) : Below a.heap.size a (b.alloc o) := h.alloc h.size o

/-- The bytes of a number, as a string. -/
def bstr (n : Int) (m : Nat) : ByteArray := ⟨(bytesOf n m).toArray⟩
theorem bstr_size (n : Int) (m : Nat) : (bstr n m).size = m := by simp [bstr, ByteArray.size, bytesOf]
theorem Put16b (n : Int) (w : World) (h0 : 0 ≤ n) (h1 : n < 65536) :
    Calls Try.prog 17 #[.int .u16 n] w fun e w' => e = .returned (.string (bstr n 2)) ∧ Below w.heap.size w w' := Put16 n w h0 h1
theorem Put32b (n : Int) (w : World) (h0 : 0 ≤ n) (h1 : n < 4294967296) :
    Calls Try.prog 19 #[.int .u32 n] w fun e w' => e = .returned (.string (bstr n 4)) ∧ Below w.heap.size w w' := Put32 n w h0 h1

theorem bnum_two (n : Int) (h0 : 0 ≤ n) (h1 : n < 65536) : bnum (bstr n 2) = n := by
  have e : num (bytesOf n 2) = (byteAt n 2 0).toNat * 256 + (byteAt n 2 1).toNat := by simp [bytesOf, num, List.range, List.range.loop]
  have b0 := byteAt_toNat n 2 0 h0
  have b1 := byteAt_toNat n 2 1 h0
  simp only [Nat.reduceMul, Nat.reduceSub, Int.reducePow, Int.pow_zero, Int.ediv_one, Nat.mul_zero] at b0 b1
  show ((num (bytesOf n 2) : Nat) : Int) = n
  rw [e]
  omega
theorem bnum_four (n : Int) (h0 : 0 ≤ n) (h1 : n < 4294967296) : bnum (bstr n 4) = n := by
  have e : num (bytesOf n 4) = (((byteAt n 4 0).toNat * 256 + (byteAt n 4 1).toNat) * 256 + (byteAt n 4 2).toNat) * 256 + (byteAt n 4 3).toNat := by simp [bytesOf, num, List.range, List.range.loop]
  have b0 := byteAt_toNat n 4 0 h0
  have b1 := byteAt_toNat n 4 1 h0
  have b2 := byteAt_toNat n 4 2 h0
  have b3 := byteAt_toNat n 4 3 h0
  simp only [Nat.reduceMul, Nat.reduceSub, Int.reducePow, Int.pow_zero, Int.ediv_one, Nat.mul_zero] at b0 b1 b2 b3
  show ((num (bytesOf n 4) : Nat) : Int) = n
  rw [e]
  omega

/-- The middle of three strings. -/
theorem extract_mid (A P B : ByteArray) (m : Nat) (h : P.size = m) : (A ++ P ++ B).extract (A.size : Int).toNat ((A.size : Int) + (m : Int)).toNat = P := by
  have e1 : ((A.size : Int) + (m : Int)).toNat = A.size + m := by omega
  have e0 : (A.size : Int).toNat = A.size := by omega
  rw [e0, e1, ByteArray.append_assoc]
  subst h
  apply ByteArray.ext
  apply Array.toList_inj.1
  rw [extract_list]
  have l1 : A.size = A.data.toList.length := by simp
  have l2 : P.size = P.data.toList.length := by simp
  simp only [ByteArray.data_append, Array.toList_append]
  rw [l1, l2, List.take_append, List.take_of_length_le (by omega), List.drop_append, List.drop_of_length_le (Nat.le_refl _)]
  simp

theorem u32_back (n : Int) (A B : ByteArray) (w : World) (h0 : 0 ≤ n) (h1 : n < 4294967296) (hz : (A ++ bstr n 4 ++ B).size ≤ maxLen) :
    Calls Try.prog 13 #[.string (A ++ bstr n 4 ++ B), .int .i64 (A.size : Int)] w fun e w' => e = .returned (.tuple #[.int .u32 n, .int .i64 ((A.size : Int) + 4), .int .i64 0]) ∧ Below w.heap.size w w' := by
  have h := u32_yes (A ++ bstr n 4 ++ B) A.size w hz (by omega) (by simp only [ByteArray.size_append, bstr_size]; omega)
  have e := extract_mid A (bstr n 4) B 4 (bstr_size n 4)
  rw [show ((4 : Nat) : Int) = 4 from rfl] at e
  rw [e, bnum_four n h0 h1] at h
  exact h
theorem u16_back (n : Int) (A B : ByteArray) (w : World) (h0 : 0 ≤ n) (h1 : n < 65536) (hz : (A ++ bstr n 2 ++ B).size ≤ maxLen) :
    Calls Try.prog 11 #[.string (A ++ bstr n 2 ++ B), .int .i64 (A.size : Int)] w fun e w' => e = .returned (.tuple #[.int .u16 n, .int .i64 ((A.size : Int) + 2), .int .i64 0]) ∧ Below w.heap.size w w' := by
  have h := u16_yes (A ++ bstr n 2 ++ B) A.size w hz (by omega) (by simp only [ByteArray.size_append, bstr_size]; omega)
  have e := extract_mid A (bstr n 2) B 2 (bstr_size n 2)
  rw [show ((2 : Nat) : Int) = 2 from rfl] at e
  rw [e, bnum_two n h0 h1] at h
  exact h
/-- One byte, as a string. -/
def bone (n : Int) : ByteArray := ⟨#[UInt8.ofNat n.toNat]⟩
theorem bone_size (n : Int) : (bone n).size = 1 := rfl
theorem bnum_one (n : Int) (h0 : 0 ≤ n) (h1 : n < 256) : bnum (bone n) = n := by
  have e : num [UInt8.ofNat n.toNat] = (UInt8.ofNat n.toNat).toNat := by simp [num]
  show ((num [UInt8.ofNat n.toNat] : Nat) : Int) = n
  rw [e, UInt8.toNat_ofNat']
  omega
theorem u8_back (n : Int) (A B : ByteArray) (w : World) (h0 : 0 ≤ n) (h1 : n < 256) (hz : (A ++ bone n ++ B).size ≤ maxLen) :
    Calls Try.prog 9 #[.string (A ++ bone n ++ B), .int .i64 (A.size : Int)] w fun e w' => e = .returned (.tuple #[.int .u8 n, .int .i64 ((A.size : Int) + 1), .int .i64 0]) ∧ Below w.heap.size w w' := by
  have h := u8_yes (A ++ bone n ++ B) A.size w hz (by omega) (by simp only [ByteArray.size_append, bone_size]; omega)
  have e := extract_mid A (bone n) B 1 (bone_size n)
  rw [show ((1 : Nat) : Int) = 1 from rfl] at e
  rw [e, bnum_one n h0 h1] at h
  exact h
theorem conv_bone (n : Int) (h0 : 0 ≤ n) (h1 : n < 256) (W : World) :
    (convert 45 9 (.slice (some ⟨W.heap.size, 0, none⟩) 1 1)).run Try.prog (W.alloc (.cells #[.int .u8 n] 5)) = .ok (.string (bone n)) (W.alloc (.cells #[.int .u8 n] 5)) := by
  have h := conv1 (UInt8.ofNat n.toNat) W
  have e : ((UInt8.ofNat n.toNat).toNat : Int) = n := by rw [UInt8.toNat_ofNat']; omega
  rw [e] at h
  exact h

set_option maxHeartbeats 1000000 in
theorem back_walk (n : Int) (A B : ByteArray) (hn : (Lit.int .u32 n).wf = true) (hA : A.size ≤ maxLen) (hB : B.size ≤ maxLen) (w : World) :
    Calls Try.prog 4 #[.int .u32 n, .string A, .string B] w fun e w' => e = .returned (.bool true) ∧ Below w.heap.size w w' := by
  obtain ⟨n0, n1⟩ := bounds_u32 hn
  by_cases hbig : 2000 < A.size
  · go_enter Try.func4, Try.ntmps4
    go_wp2_with (go_at_call 8; refine (shown_any _).mono ?_; rintro e w1 ⟨rfl, hb1⟩)
    go_ret
    exact ⟨rfl, hb1⟩
  by_cases hbig2 : 2000 < B.size
  · go_enter Try.func4, Try.ntmps4
    go_wp2_with (go_at_call 8; refine (shown_any _).mono ?_; rintro e w1 ⟨rfl, hb1⟩)
    go_ret
    exact ⟨rfl, hb1⟩
  have hw8 := conv_bone (n % 256) (by omega) (by omega)
  have z4 := bstr_size n 4
  have z2 := bstr_size (n % 65536) 2
  have z1 := bone_size (n % 256)
  have y3 : ¬ 9223372036854775807 < A.size + (bstr (n % 65536) 2).size := by omega
  have y4 : ¬ 9223372036854775807 < A.size + (bstr (n % 65536) 2).size + B.size := by omega
  have y5 : ¬ 9223372036854775807 < A.size + (bone (n % 256)).size := by omega
  have y6 : ¬ 9223372036854775807 < A.size + (bone (n % 256)).size + B.size := by omega
  have x4 : (A ++ bstr n 4 ++ B).size ≤ maxLen := by rw [ByteArray.size_append, ByteArray.size_append]; unfold maxLen; omega
  have x2 : (A ++ bstr (n % 65536) 2 ++ B).size ≤ maxLen := by rw [ByteArray.size_append, ByteArray.size_append]; unfold maxLen; omega
  have x1 : (A ++ bone (n % 256) ++ B).size ≤ maxLen := by rw [ByteArray.size_append, ByteArray.size_append]; unfold maxLen; omega
  have X4 := Lib.hid x4
  have X2 := Lib.hid x2
  have X1 := Lib.hid x1
  clear x4 x2 x1 z1 z2
  have y1 : ¬ 9223372036854775807 < A.size + (bstr n 4).size := by omega
  have y2 : ¬ 9223372036854775807 < A.size + (bstr n 4).size + B.size := by omega
  have Z4 := Lib.hid z4
  clear z4
  go_enter Try.func4, Try.ntmps4
  go_wp2_with fail
  refine (shown_any _).mono ?_; rintro e w1 ⟨rfl, hb1⟩
  go_wp2_with fail
  refine (Put32b n _ n0 (by omega)).mono ?_; rintro e w2 ⟨rfl, hb2⟩
  go_wp2_with fail
  refine (u32_back n A B _ n0 (by omega) X4.out).mono ?_; rintro e w3 ⟨rfl, hb3⟩
  go_wp2_with fail
  refine (Put16b (n % 65536) _ (by omega) (by omega)).mono ?_; rintro e w4 ⟨rfl, hb4⟩
  go_wp2_with fail
  refine (u16_back (n % 65536) A B _ (by omega) (by omega) X2.out).mono ?_; rintro e w5 ⟨rfl, hb5⟩
  go_wp2_with fail
  refine (u8_back (n % 256) A B _ (by omega) (by omega) X1.out).mono ?_; rintro e w6 ⟨rfl, hb6⟩
  go_wp2_with fail
  go_ret
  exact ⟨rfl, bthen (balloc (bthen (bthen (bthen (bthen hb1 hb2) hb3) hb4) hb5) _) hb6⟩
end Go.Proofs.Ytpgcklncengljaa
