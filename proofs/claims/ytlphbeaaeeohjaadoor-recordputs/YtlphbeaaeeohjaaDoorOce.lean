/- Contracts of octet: U32 and Put32, and of derrickref01: U32 and Put32. -/
import Derived.Test.YtlphbeaaeeohjaaDoorOcd
namespace Go.Proofs.YtlphbeaaeeohjaaDoor.Oc
open Go.RowKit
set_option linter.unusedVariables false

theorem byte_mod32 (b : UInt8) : (b.toNat : Int) % 4294967296 = b.toNat := by have := b.toNat_lt; omega
theorem byte_u32 (b : UInt8) : IntKind.u32.wrap (b.toNat : Int) = b.toNat := IntWalk.u32_in _ (by have := b.toNat_lt; omega)
theorem fits_u32 (s : Nat) (h : s ≤ 4) (n : Int) (h0 : 0 ≤ n) (h1 : n < 2 ^ (8 * s)) : IntKind.u32.wrap n = n := by
  refine IntWalk.u32_in _ ⟨h0, ?_⟩
  have : (2 : Int) ^ (8 * s) ≤ 2 ^ 32 := by
    have : 2 ^ (8 * s) ≤ 2 ^ 32 := Nat.pow_le_pow_right (by decide) (by omega)
    exact_mod_cast this
  omega
set_option maxHeartbeats 400000 in
theorem asm32 (b : ByteArray) (w : World) (hb : b.size ≤ 4) :
    Calls Tryd.prog 90 #[.string b] w fun e w' => e = .returned (.int .u32 (bnum b)) ∧ Below w.heap.size w w' := by
  go_enter Tryd.func90, Tryd.ntmps90
  go_wp2
  go_loopw [3, 7] (fun n i wr => ∃ k : Nat, k ≤ b.size ∧ i = .int .i64 k ∧ n = .int .u32 (acc b k) ∧ Below w.heap.size w wr) (fun _ i _ => b.size - (intOf i).toNat)
  case atStart => exact ⟨0, Nat.zero_le _, rfl, by rw [acc_zero], Below.refl _ _⟩
  case round =>
    obtain ⟨k, hk, rfl, rfl, hbel⟩ := hrel
    by_cases hlt : k < b.size
    · go_wp2
      go_quiet ((go_at_call 89; exact shift_q k b.size _ _ (by omega) (by omega) (by omega)))
      go_wp2
      go_roundw
      case rel =>
        have h := acc_or .u32 b k hlt (by simp [IntKind.bits]; omega) (fits_u32 b.size hb)
        exact ⟨k + 1, hlt, by go_num, val_int (by rw [← h, IntKind.wrap_u32, byte_mod32]), below_drewN hbel _⟩
      case measure => simp [intOf]; omega
    · obtain rfl : k = b.size := by omega
      go_wp2
      go_ret
      exact ⟨ret_int (acc_all b), hbel⟩
set_option maxHeartbeats 400000 in
theorem take32_yes (s : ByteArray) (p : Int) (w : World) (hs : s.size ≤ maxLen) (h0 : 0 ≤ p) (h2 : p + 4 ≤ s.size) :
    Calls Tryd.prog 77 #[.string s, .int .i64 p, .int .i64 4] w fun e w' => e = .returned (.tuple #[.int .u32 (bnum (s.extract p.toNat (p + 4).toNat)), .int .i64 (p + 4), .int .i64 0]) ∧ Below w.heap.size w w' := by
  have hz : (s.extract p.toNat (p + 4).toNat).size ≤ 4 := by rw [ByteArray.size_extract]; omega
  go_enter Tryd.func77, Tryd.ntmps77
  go_wp2_with (first
    | (go_at_call 79; refine (some_yes s p 4 _ hs h0 (by omega) h2).mono ?_; rintro e w' ⟨rfl, rfl⟩)
    | (go_at_call 90; refine (asm32 _ _ hz).mono ?_; rintro e w' ⟨rfl, hb⟩))
  go_ret3
  exact ⟨rfl, hb⟩
set_option maxHeartbeats 400000 in
theorem u32_yes (s : ByteArray) (p : Int) (w : World) (hs : s.size ≤ maxLen) (h0 : 0 ≤ p) (h2 : p + 4 ≤ s.size) :
    Calls Tryd.prog 56 #[.string s, .int .i64 p] w fun e w' => e = .returned (.tuple #[.int .u32 (bnum (s.extract p.toNat (p + 4).toNat)), .int .i64 (p + 4), .int .i64 0]) ∧ Below w.heap.size w w' := by
  go_enter Tryd.func56, Tryd.ntmps56
  go_wp2_with (go_at_call 77; refine (take32_yes s p _ hs h0 h2).mono ?_; rintro e w' ⟨rfl, hb⟩)
  go_ret3
  exact ⟨rfl, hb⟩
set_option maxHeartbeats 400000 in
theorem take32_no (s : ByteArray) (p : Int) (w : World) (hs : s.size ≤ maxLen) (hp : p ≤ maxLen) (h : p < 0 ∨ s.size < p + 4) :
    Calls Tryd.prog 77 #[.string s, .int .i64 p, .int .i64 4] w fun e w' => e = .returned (.tuple #[.int .u32 0, .int .i64 0, .int .i64 2]) ∧ w = w' := by
  go_enter Tryd.func77, Tryd.ntmps77
  go_wp2_with (go_at_call 79; refine (some_no s p 4 _ hs hp (by omega)).mono ?_; rintro e w' ⟨rfl, rfl⟩)
  go_ret3
  exact ⟨rfl, rfl⟩
set_option maxHeartbeats 400000 in
theorem u32_no (s : ByteArray) (p : Int) (w : World) (hs : s.size ≤ maxLen) (hp : p ≤ maxLen) (h : p < 0 ∨ s.size < p + 4) :
    Calls Tryd.prog 56 #[.string s, .int .i64 p] w fun e w' => e = .returned (.tuple #[.int .u32 0, .int .i64 0, .int .i64 2]) ∧ w = w' := by
  go_enter Tryd.func56, Tryd.ntmps56
  go_wp2_with (go_at_call 77; refine (take32_no s p _ hs hp h).mono ?_; rintro e w' ⟨rfl, rfl⟩)
  go_ret3
  exact ⟨rfl, rfl⟩
set_option maxHeartbeats 400000 in
theorem put32 (n : Int) (w : World) (h0 : 0 ≤ n) (h1 : n < 4294967296) :
    Calls Tryd.prog 76 #[.int .u32 n, .int .i64 4] w fun e w' => e = .returned (.string ⟨(bytesOf n 4).toArray⟩) ∧ Below w.heap.size w w' := by
  have hmk : ∀ w : World, (Instr.makeSlice 74 (.int .i64 4) (.int .i64 4)).run Tryd.prog w = .ok (.slice (some ⟨w.heap.size, 0, none⟩) 4 4) (w.alloc (.cells #[.int .u8 0, .int .u8 0, .int .u8 0, .int .u8 0] 5)) := fun _ => by kernel_rfl
  go_enter Tryd.func76, Tryd.ntmps76
  go_wp2
  go_loopw [10] (fun i wr => ∃ k : Nat, k ≤ 4 ∧ i = .int .i64 k ∧ Blk wr w.heap.size 5 (putCells n 4 k) ∧ Below w.heap.size w wr) (fun i _ => 4 - (intOf i).toNat)
  case atStart => exact ⟨0, Nat.zero_le _, rfl, Blk.new _ _ _, (Below.refl _ _).alloc (Nat.le_refl _) _⟩
  case round =>
    obtain ⟨k, hk, rfl, hblk, hbel⟩ := hrel
    by_cases hlt : k < 4
    · have hc := hblk.cell k
      rw [putCells_at n 4 k k hlt] at hc
      have hf := hblk.frozen k
      rw [if_neg (by omega)] at hc
      go_wp2_with (go_at_call 89; refine (shift_any k 4 _ (by omega) (by omega) (by omega)).mono ?_; rintro e w' ⟨rfl, rfl⟩)
      go_roundw
      case rel =>
        have hset := hblk.set_ k (.int .u8 (byteAt n 4 k).toNat)
        rw [putCells_set n 4 k hlt, byteAt_toNat n 4 k h0] at hset
        exact ⟨k + 1, hlt, by go_num, hset, hbel.setCell (Nat.le_refl _) _⟩
      case measure => simp [intOf]; omega
    · obtain rfl : k = 4 := by omega
      have hcv := run_convert_bytes_back (P := Tryd.prog) wr 74 9 5 ⟨w.heap.size, 0, none⟩ 4 (bytesOf n 4) Tryd.underlying74 Tryd.underlying5 Tryd.underlying9 (putCells_done n 4 hblk)
      rw [bytesOf_length] at hcv
      go_wp2
      go_ret
      exact ⟨rfl, hbel⟩
set_option maxHeartbeats 400000 in
theorem Put32 (n : Int) (w : World) (h0 : 0 ≤ n) (h1 : n < 4294967296) :
    Calls Tryd.prog 50 #[.int .u32 n] w fun e w' => e = .returned (.string ⟨(bytesOf n 4).toArray⟩) ∧ Below w.heap.size w w' := by
  go_enter Tryd.func50, Tryd.ntmps50
  go_wp2_with (go_at_call 76; refine (put32 n _ h0 h1).mono ?_; rintro e w' ⟨rfl, hb⟩)
  go_ret
  exact ⟨rfl, hb⟩
theorem u32_any (s : ByteArray) (p : Int) (w : World) (hs : s.size ≤ maxLen) (hp : p ≤ maxLen) :
    Calls Tryd.prog 56 #[.string s, .int .i64 p] w fun e w' => e = .returned (.tuple #[.int .u32 (un s p 4), .int .i64 (so s p 4), .int .i64 (se s p 4)]) ∧ Below w.heap.size w w' := by
  by_cases h : okS s p 4
  · simp only [un, so, se, if_pos h]; exact u32_yes s p w hs h.1 h.2.2
  · simp only [un, so, se, if_neg h]; exact (u32_no s p w hs hp (by unfold okS at h; omega)).mono fun _ _ ⟨he, hw⟩ => ⟨he, hw ▸ Below.refl _ _⟩
theorem un_halves (s : ByteArray) (k : Int) (h0 : 0 ≤ k) (h1 : k + 4 ≤ s.size) : un s k 4 = (un s k 2 % 4294967296 * 65536 + un s (k + 2) 2) % 4294967296 := by
  unfold un
  rw [if_pos (by unfold okS; omega), if_pos (by unfold okS; omega), if_pos (by unfold okS; omega)]
  have hj : s.extract k.toNat (k + 4).toNat = s.extract k.toNat (k + 2).toNat ++ s.extract (k + 2).toNat (k + 2 + 2).toNat := by
    rw [ByteArray.extract_append_extract]
    congr 1 <;> omega
  have z1 : (s.extract k.toNat (k + 2).toNat).size = 2 := by rw [ByteArray.size_extract]; omega
  have z2 : (s.extract (k + 2).toNat (k + 2 + 2).toNat).size = 2 := by rw [ByteArray.size_extract]; omega
  have b1 := bnum_lt (s.extract k.toNat (k + 2).toNat)
  have b2 := bnum_lt (s.extract (k + 2).toNat (k + 2 + 2).toNat)
  rw [hj, bnum_append]
  rw [z1] at b1
  rw [z2] at b2 ⊢
  generalize bnum (s.extract k.toNat (k + 2).toNat) = x at *
  generalize bnum (s.extract (k + 2).toNat (k + 2 + 2).toNat) = y at *
  have e : (256 : Int) ^ 2 = 65536 := rfl
  rw [e] at *
  omega
theorem Put32b (n : Int) (w : World) (h0 : 0 ≤ n) (h1 : n < 4294967296) :
    Calls Tryd.prog 50 #[.int .u32 n] w fun e w' => e = .returned (.string (bstr n 4)) ∧ Below w.heap.size w w' := Put32 n w h0 h1
theorem bnum_four (n : Int) (h0 : 0 ≤ n) (h1 : n < 4294967296) : bnum (bstr n 4) = n := by
  have e : num (bytesOf n 4) = (((byteAt n 4 0).toNat * 256 + (byteAt n 4 1).toNat) * 256 + (byteAt n 4 2).toNat) * 256 + (byteAt n 4 3).toNat := by simp [bytesOf, num, List.range, List.range.loop]
  have b0 := byteAt_toNat n 4 0 h0
  have b1 := byteAt_toNat n 4 1 h0
  have b2 := byteAt_toNat n 4 2 h0
  have b3 := byteAt_toNat n 4 3 h0
  simp only [Nat.reduceMul, Nat.reduceSub, Int.reducePow, Int.pow_zero, Int.ediv_one, Nat.mul_zero] at b0 b1 b2 b3
  show ((num (bytesOf n 4) : Nat) : Int) = n
  rw [e]
  omega
theorem un_four (s : ByteArray) (p : Int) (h0 : 0 ≤ p) (h1 : p + 4 ≤ s.size) : un s p 4 = 65536 * un s p 2 + un s (p + 2) 2 := by
  have h := un_halves s p h0 h1
  have a := un_lt16 s p
  have b := un_lt16 s (p + 2)
  omega
set_option maxHeartbeats 400000 in
theorem ru32_any (s : ByteArray) (p : Int) (w : World) (hs : s.size ≤ 2000) :
    Calls Tryd.prog 32 #[.string s, .int .i64 p] w fun e w' => e = .returned (.tuple #[.int .u32 (un s p 4), .int .i64 (so s p 4), .int .i64 (se s p 4)]) ∧ Below w.heap.size w w' := by
  by_cases h : okS s p 4
  · have hb : okB s p 4 = true := okB_yes h
    have u1 : un s p 4 = 65536 * un s p 2 + un s (p + 2) 2 := un_four s p h.1 h.2.2
    have o1 : so s p 4 = p + 4 := if_pos h
    have e1 : se s p 4 = 0 := if_pos h
    have o2 : so s p 2 = p + 2 := if_pos (by unfold okS at *; omega)
    have o3 : so s (p + 2) 2 = p + 2 + 2 := if_pos (by unfold okS at *; omega)
    rw [u1, o1, e1]
    have b1 := un_lt16 s p
    have b2 := un_lt16 s (p + 2)
    clear u1 o1 e1 h
    have O2 := Lib.hid o2
    have O3 := Lib.hid o3
    clear o2 o3
    go_enter Tryd.func32, Tryd.ntmps32
    go_wp2_with fail
    refine (there_any s p 4 _ hs).mono ?_; rintro e w1 ⟨rfl, rfl⟩
    go_wp2_with fail
    refine (ru16_any s p _ hs).mono ?_; rintro e w1 ⟨rfl, hb1⟩
    go_wp2_with fail
    rw [O2.out]
    refine (ru16_any s (p + 2) _ hs).mono ?_; rintro e w2 ⟨rfl, hb2⟩
    rw [O3.out]
    go_wp2_with fail
    go_ret3
    have e4 : p + 2 + 2 = p + 4 := by omega
    exact ⟨by rw [← e4]; rfl, bthen hb1 hb2⟩
  · have hb : okB s p 4 = false := okB_no h
    simp only [un, so, se, if_neg h]
    clear h
    go_enter Tryd.func32, Tryd.ntmps32
    go_wp2_with (go_at_call 59; refine (there_any s p 4 _ hs).mono ?_; rintro e w1 ⟨rfl, rfl⟩)
    go_ret3
    exact ⟨rfl, Below.refl _ _⟩
theorem bstr_join (n : Int) (h0 : 0 ≤ n) (h1 : n ≤ 4294967295) : bstr (n / 65536) 2 ++ bstr (n % 65536) 2 = bstr n 4 := by
  apply ByteArray.ext
  apply Array.toList_inj.1
  have e2 : ∀ k : Int, (bstr k 2).data.toList = [byteAt k 2 0, byteAt k 2 1] := fun k => rfl
  have e4 : (bstr n 4).data.toList = [byteAt n 4 0, byteAt n 4 1, byteAt n 4 2, byteAt n 4 3] := rfl
  rw [ByteArray.data_append, Array.toList_append, e2, e2, e4]
  have c : ∀ (a b : UInt8), (a.toNat : Int) = b.toNat → a = b := fun a b h => UInt8.toNat_inj.1 (by omega)
  have c0 : byteAt (n / 65536) 2 0 = byteAt n 4 0 := c _ _ (by
    rw [byteAt_toNat _ _ _ (by omega), byteAt_toNat _ _ _ h0]; simp only [Nat.reduceMul, Nat.reduceSub, Int.reducePow]; omega)
  have c1 : byteAt (n / 65536) 2 1 = byteAt n 4 1 := c _ _ (by
    rw [byteAt_toNat _ _ _ (by omega), byteAt_toNat _ _ _ h0]; simp only [Nat.reduceMul, Nat.reduceSub, Int.reducePow, Nat.mul_zero, Int.pow_zero]; omega)
  have c2 : byteAt (n % 65536) 2 0 = byteAt n 4 2 := c _ _ (by
    rw [byteAt_toNat _ _ _ (by omega), byteAt_toNat _ _ _ h0]; simp only [Nat.reduceMul, Nat.reduceSub, Int.reducePow]; omega)
  have c3 : byteAt (n % 65536) 2 1 = byteAt n 4 3 := c _ _ (by
    rw [byteAt_toNat _ _ _ (by omega), byteAt_toNat _ _ _ h0]; simp only [Nat.reduceSub, Nat.mul_zero, Int.pow_zero]; omega)
  rw [c0, c1, c2, c3]
  rfl
set_option maxHeartbeats 400000 in
theorem rput32 (n : Int) (w : World) (h0 : 0 ≤ n) (h1 : n ≤ 4294967295) :
    Calls Tryd.prog 54 #[.int .u32 n] w fun e w' => e = .returned (.string (bstr n 4)) ∧ Below w.heap.size w w' := by
  have hj := bstr_join n h0 h1
  have z1 := bstr_size (n / 65536) 2
  have z2 := bstr_size (n % 65536) 2
  have y : ¬ 9223372036854775807 < (bstr (n / 65536) 2).size + (bstr (n % 65536) 2).size := by omega
  clear z1 z2
  have HJ := Lib.hid hj
  clear hj
  have q0 : 0 ≤ n / 65536 := by omega
  have q1 : n / 65536 ≤ 65535 := by omega
  go_enter Tryd.func54, Tryd.ntmps54
  go_wp2_with fail
  refine (rput16 (n / 65536) _ q0 q1).mono ?_; rintro e w1 ⟨rfl, hb1⟩
  go_wp2_with fail
  refine (rput16 (n % 65536) _ (by omega) (by omega)).mono ?_; rintro e w2 ⟨rfl, hb2⟩
  go_wp2_with fail
  go_ret
  exact ⟨by rw [← HJ.out]; rfl, bthen hb1 hb2⟩
end Go.Proofs.YtlphbeaaeeohjaaDoor.Oc
