/- Contracts of octet.take, U8, U16 and U32, where there are enough bytes and where there are not. -/
import Derived.Test.YtpgcklncengljaaOctb
namespace Go.Proofs.Ytpgcklncengljaa
open Go.RowKit

theorem extract_list (s : ByteArray) (a b : Nat) : (s.extract a b).data.toList = (s.data.toList.take b).drop a := by
  rw [ByteArray.data_extract, Array.toList_extract]
  simp only [List.extract]
  rw [List.drop_take]

set_option maxHeartbeats 400000 in
theorem take8_yes (s : ByteArray) (p : Int) (w : World) (hs : s.size ≤ maxLen) (h0 : 0 ≤ p) (h2 : p + 1 ≤ s.size) :
    Calls Try.prog 21 #[.string s, .int .i64 p, .int .i64 1] w fun e w' => e = .returned (.tuple #[.int .u8 (bnum (s.extract p.toNat (p + 1).toNat)), .int .i64 (p + 1), .int .i64 0]) ∧ Below w.heap.size w w' := by
  have hz : (s.extract p.toNat (p + 1).toNat).size ≤ 1 := by rw [ByteArray.size_extract]; omega
  go_enter Try.func21, Try.ntmps21
  go_wp2_with (first
    | (go_at_call 15; refine (some_yes s p 1 _ hs h0 (by omega) h2).mono ?_; rintro e w' ⟨rfl, rfl⟩)
    | (go_at_call 27; refine (asm8 _ _ hz).mono ?_; rintro e w' ⟨rfl, hb⟩))
  go_ret3
  exact ⟨rfl, hb⟩

set_option maxHeartbeats 400000 in
theorem u8_yes (s : ByteArray) (p : Int) (w : World) (hs : s.size ≤ maxLen) (h0 : 0 ≤ p) (h2 : p + 1 ≤ s.size) :
    Calls Try.prog 9 #[.string s, .int .i64 p] w fun e w' => e = .returned (.tuple #[.int .u8 (bnum (s.extract p.toNat (p + 1).toNat)), .int .i64 (p + 1), .int .i64 0]) ∧ Below w.heap.size w w' := by
  go_enter Try.func9, Try.ntmps9
  go_wp2_with (go_at_call 21; refine (take8_yes s p _ hs h0 h2).mono ?_; rintro e w' ⟨rfl, hb⟩)
  go_ret3
  exact ⟨rfl, hb⟩

set_option maxHeartbeats 400000 in
theorem take8_no (s : ByteArray) (p : Int) (w : World) (hs : s.size ≤ maxLen) (hp : p ≤ maxLen) (h : p < 0 ∨ s.size < p + 1) :
    Calls Try.prog 21 #[.string s, .int .i64 p, .int .i64 1] w fun e w' => e = .returned (.tuple #[.int .u8 0, .int .i64 0, .int .i64 2]) ∧ w = w' := by
  go_enter Try.func21, Try.ntmps21
  go_wp2_with (go_at_call 15; refine (some_no s p 1 _ hs hp (by omega)).mono ?_; rintro e w' ⟨rfl, rfl⟩)
  go_ret3
  exact ⟨rfl, rfl⟩

set_option maxHeartbeats 400000 in
theorem u8_no (s : ByteArray) (p : Int) (w : World) (hs : s.size ≤ maxLen) (hp : p ≤ maxLen) (h : p < 0 ∨ s.size < p + 1) :
    Calls Try.prog 9 #[.string s, .int .i64 p] w fun e w' => e = .returned (.tuple #[.int .u8 0, .int .i64 0, .int .i64 2]) ∧ w = w' := by
  go_enter Try.func9, Try.ntmps9
  go_wp2_with (go_at_call 21; refine (take8_no s p _ hs hp h).mono ?_; rintro e w' ⟨rfl, rfl⟩)
  go_ret3
  exact ⟨rfl, rfl⟩

set_option maxHeartbeats 400000 in
theorem take16_yes (s : ByteArray) (p : Int) (w : World) (hs : s.size ≤ maxLen) (h0 : 0 ≤ p) (h2 : p + 2 ≤ s.size) :
    Calls Try.prog 23 #[.string s, .int .i64 p, .int .i64 2] w fun e w' => e = .returned (.tuple #[.int .u16 (bnum (s.extract p.toNat (p + 2).toNat)), .int .i64 (p + 2), .int .i64 0]) ∧ Below w.heap.size w w' := by
  have hz : (s.extract p.toNat (p + 2).toNat).size ≤ 2 := by rw [ByteArray.size_extract]; omega
  go_enter Try.func23, Try.ntmps23
  go_wp2_with (first
    | (go_at_call 15; refine (some_yes s p 2 _ hs h0 (by omega) h2).mono ?_; rintro e w' ⟨rfl, rfl⟩)
    | (go_at_call 28; refine (asm16 _ _ hz).mono ?_; rintro e w' ⟨rfl, hb⟩))
  go_ret3
  exact ⟨rfl, hb⟩

set_option maxHeartbeats 400000 in
theorem u16_yes (s : ByteArray) (p : Int) (w : World) (hs : s.size ≤ maxLen) (h0 : 0 ≤ p) (h2 : p + 2 ≤ s.size) :
    Calls Try.prog 11 #[.string s, .int .i64 p] w fun e w' => e = .returned (.tuple #[.int .u16 (bnum (s.extract p.toNat (p + 2).toNat)), .int .i64 (p + 2), .int .i64 0]) ∧ Below w.heap.size w w' := by
  go_enter Try.func11, Try.ntmps11
  go_wp2_with (go_at_call 23; refine (take16_yes s p _ hs h0 h2).mono ?_; rintro e w' ⟨rfl, hb⟩)
  go_ret3
  exact ⟨rfl, hb⟩

set_option maxHeartbeats 400000 in
theorem take16_no (s : ByteArray) (p : Int) (w : World) (hs : s.size ≤ maxLen) (hp : p ≤ maxLen) (h : p < 0 ∨ s.size < p + 2) :
    Calls Try.prog 23 #[.string s, .int .i64 p, .int .i64 2] w fun e w' => e = .returned (.tuple #[.int .u16 0, .int .i64 0, .int .i64 2]) ∧ w = w' := by
  go_enter Try.func23, Try.ntmps23
  go_wp2_with (go_at_call 15; refine (some_no s p 2 _ hs hp (by omega)).mono ?_; rintro e w' ⟨rfl, rfl⟩)
  go_ret3
  exact ⟨rfl, rfl⟩

set_option maxHeartbeats 400000 in
theorem u16_no (s : ByteArray) (p : Int) (w : World) (hs : s.size ≤ maxLen) (hp : p ≤ maxLen) (h : p < 0 ∨ s.size < p + 2) :
    Calls Try.prog 11 #[.string s, .int .i64 p] w fun e w' => e = .returned (.tuple #[.int .u16 0, .int .i64 0, .int .i64 2]) ∧ w = w' := by
  go_enter Try.func11, Try.ntmps11
  go_wp2_with (go_at_call 23; refine (take16_no s p _ hs hp h).mono ?_; rintro e w' ⟨rfl, rfl⟩)
  go_ret3
  exact ⟨rfl, rfl⟩

set_option maxHeartbeats 400000 in
theorem take32_yes (s : ByteArray) (p : Int) (w : World) (hs : s.size ≤ maxLen) (h0 : 0 ≤ p) (h2 : p + 4 ≤ s.size) :
    Calls Try.prog 24 #[.string s, .int .i64 p, .int .i64 4] w fun e w' => e = .returned (.tuple #[.int .u32 (bnum (s.extract p.toNat (p + 4).toNat)), .int .i64 (p + 4), .int .i64 0]) ∧ Below w.heap.size w w' := by
  have hz : (s.extract p.toNat (p + 4).toNat).size ≤ 4 := by rw [ByteArray.size_extract]; omega
  go_enter Try.func24, Try.ntmps24
  go_wp2_with (first
    | (go_at_call 15; refine (some_yes s p 4 _ hs h0 (by omega) h2).mono ?_; rintro e w' ⟨rfl, rfl⟩)
    | (go_at_call 29; refine (asm32 _ _ hz).mono ?_; rintro e w' ⟨rfl, hb⟩))
  go_ret3
  exact ⟨rfl, hb⟩

set_option maxHeartbeats 400000 in
theorem u32_yes (s : ByteArray) (p : Int) (w : World) (hs : s.size ≤ maxLen) (h0 : 0 ≤ p) (h2 : p + 4 ≤ s.size) :
    Calls Try.prog 13 #[.string s, .int .i64 p] w fun e w' => e = .returned (.tuple #[.int .u32 (bnum (s.extract p.toNat (p + 4).toNat)), .int .i64 (p + 4), .int .i64 0]) ∧ Below w.heap.size w w' := by
  go_enter Try.func13, Try.ntmps13
  go_wp2_with (go_at_call 24; refine (take32_yes s p _ hs h0 h2).mono ?_; rintro e w' ⟨rfl, hb⟩)
  go_ret3
  exact ⟨rfl, hb⟩

set_option maxHeartbeats 400000 in
theorem take32_no (s : ByteArray) (p : Int) (w : World) (hs : s.size ≤ maxLen) (hp : p ≤ maxLen) (h : p < 0 ∨ s.size < p + 4) :
    Calls Try.prog 24 #[.string s, .int .i64 p, .int .i64 4] w fun e w' => e = .returned (.tuple #[.int .u32 0, .int .i64 0, .int .i64 2]) ∧ w = w' := by
  go_enter Try.func24, Try.ntmps24
  go_wp2_with (go_at_call 15; refine (some_no s p 4 _ hs hp (by omega)).mono ?_; rintro e w' ⟨rfl, rfl⟩)
  go_ret3
  exact ⟨rfl, rfl⟩

set_option maxHeartbeats 400000 in
theorem u32_no (s : ByteArray) (p : Int) (w : World) (hs : s.size ≤ maxLen) (hp : p ≤ maxLen) (h : p < 0 ∨ s.size < p + 4) :
    Calls Try.prog 13 #[.string s, .int .i64 p] w fun e w' => e = .returned (.tuple #[.int .u32 0, .int .i64 0, .int .i64 2]) ∧ w = w' := by
  go_enter Try.func13, Try.ntmps13
  go_wp2_with (go_at_call 24; refine (take32_no s p _ hs hp h).mono ?_; rintro e w' ⟨rfl, rfl⟩)
  go_ret3
  exact ⟨rfl, rfl⟩
end Go.Proofs.Ytpgcklncengljaa
