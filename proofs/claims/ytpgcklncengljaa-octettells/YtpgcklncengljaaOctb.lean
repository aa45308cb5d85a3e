/- Contracts of octet.assemble at one, two and four bytes: it returns the number that the bytes are. -/
import Derived.Test.YtpgcklncengljaaOcta
import Derived.Test.YtpgcklncengljaaOctm
import Derived.Deep.QuietTactic
import Derived.BigQuiet
namespace Go.Proofs.Ytpgcklncengljaa
open Go.RowKit

theorem shift_q (i n : Int) (w : World) (m : Nat) (h0 : 0 ≤ i) (h1 : i < n) (h2 : n ≤ 4) :
    Calls Try.prog 30 #[.int .i64 i, .int .i64 n] (w.drewN m) fun e w' => e = .returned (.int .i64 (8 * (n - 1 - i))) ∧ ∃ m', w' = w.drewN m' :=
  (shift_any i n _ h0 h1 h2).mono fun _ _ ⟨he, hw⟩ => ⟨he, m, hw.symm⟩

theorem below_drewN {B : Nat} {a w : World} (h : Below B a w) (n : Nat) : Below B a (w.drewN n) := ⟨h.os, h.tape, h.output, h.size, h.block⟩

theorem byte_u8 (b : UInt8) : IntKind.u8.wrap (b.toNat : Int) = b.toNat := IntWalk.u8_in _ (by have := b.toNat_lt; omega)
theorem byte_u16 (b : UInt8) : IntKind.u16.wrap (b.toNat : Int) = b.toNat := IntWalk.u16_in _ (by have := b.toNat_lt; omega)
theorem byte_mod32 (b : UInt8) : (b.toNat : Int) % 4294967296 = b.toNat := by have := b.toNat_lt; omega
theorem byte_u32 (b : UInt8) : IntKind.u32.wrap (b.toNat : Int) = b.toNat := IntWalk.u32_in _ (by have := b.toNat_lt; omega)
theorem fits_u8 (s : Nat) (h : s ≤ 1) (n : Int) (h0 : 0 ≤ n) (h1 : n < 2 ^ (8 * s)) : IntKind.u8.wrap n = n := by
  refine IntWalk.u8_in _ ⟨h0, ?_⟩
  have : (2 : Int) ^ (8 * s) ≤ 2 ^ 8 := by
    have : 2 ^ (8 * s) ≤ 2 ^ 8 := Nat.pow_le_pow_right (by decide) (by omega)
    exact_mod_cast this
  omega
theorem fits_u16 (s : Nat) (h : s ≤ 2) (n : Int) (h0 : 0 ≤ n) (h1 : n < 2 ^ (8 * s)) : IntKind.u16.wrap n = n := by
  refine IntWalk.u16_in _ ⟨h0, ?_⟩
  have : (2 : Int) ^ (8 * s) ≤ 2 ^ 16 := by
    have : 2 ^ (8 * s) ≤ 2 ^ 16 := Nat.pow_le_pow_right (by decide) (by omega)
    exact_mod_cast this
  omega
theorem fits_u32 (s : Nat) (h : s ≤ 4) (n : Int) (h0 : 0 ≤ n) (h1 : n < 2 ^ (8 * s)) : IntKind.u32.wrap n = n := by
  refine IntWalk.u32_in _ ⟨h0, ?_⟩
  have : (2 : Int) ^ (8 * s) ≤ 2 ^ 32 := by
    have : 2 ^ (8 * s) ≤ 2 ^ 32 := Nat.pow_le_pow_right (by decide) (by omega)
    exact_mod_cast this
  omega
/-- The number that a string's bytes are. -/
def bnum (b : ByteArray) : Int := (num b.data.toList : Nat)
theorem ret_int {k : IntKind} {a b : Int} (h : a = b) : Ending.returned (.int k a) = .returned (.int k b) := by rw [h]
theorem val_int {k : IntKind} {a b : Int} (h : a = b) : Value.int k a = .int k b := by rw [h]

set_option maxHeartbeats 400000 in
theorem asm8 (b : ByteArray) (w : World) (hb : b.size ≤ 1) :
    Calls Try.prog 27 #[.string b] w fun e w' => e = .returned (.int .u8 (bnum b)) ∧ Below w.heap.size w w' := by
  go_enter Try.func27, Try.ntmps27
  go_wp2
  go_loopw [3, 7] (fun n i wr => ∃ k : Nat, k ≤ b.size ∧ i = .int .i64 k ∧ n = .int .u8 (acc b k) ∧ Below w.heap.size w wr) (fun _ i _ => b.size - (intOf i).toNat)
  case atStart => exact ⟨0, Nat.zero_le _, rfl, by rw [acc_zero], Below.refl _ _⟩
  case round =>
    obtain ⟨k, hk, rfl, rfl, hbel⟩ := hrel
    by_cases hlt : k < b.size
    · go_wp2
      go_quiet ((go_at_call 30; exact shift_q k b.size _ _ (by omega) (by omega) (by omega)))
      go_wp2
      go_roundw
      case rel =>
        have h := acc_or .u8 b k hlt (by simp [IntKind.bits]; omega) (fits_u8 b.size hb)
        exact ⟨k + 1, hlt, by go_num, val_int (by rw [← h, IntKind.wrap_u8, show b.size - 1 - k = 0 from by omega]; simp only [Nat.mul_zero, Int.pow_zero, Int.mul_one]), below_drewN hbel _⟩
      case measure => simp [intOf]; omega
    · obtain rfl : k = b.size := by omega
      go_wp2
      go_ret
      exact ⟨ret_int (acc_all b), hbel⟩

set_option maxHeartbeats 400000 in
theorem asm16 (b : ByteArray) (w : World) (hb : b.size ≤ 2) :
    Calls Try.prog 28 #[.string b] w fun e w' => e = .returned (.int .u16 (bnum b)) ∧ Below w.heap.size w w' := by
  go_enter Try.func28, Try.ntmps28
  go_wp2
  go_loopw [3, 7] (fun n i wr => ∃ k : Nat, k ≤ b.size ∧ i = .int .i64 k ∧ n = .int .u16 (acc b k) ∧ Below w.heap.size w wr) (fun _ i _ => b.size - (intOf i).toNat)
  case atStart => exact ⟨0, Nat.zero_le _, rfl, by rw [acc_zero], Below.refl _ _⟩
  case round =>
    obtain ⟨k, hk, rfl, rfl, hbel⟩ := hrel
    by_cases hlt : k < b.size
    · go_wp2
      go_quiet ((go_at_call 30; exact shift_q k b.size _ _ (by omega) (by omega) (by omega)))
      go_wp2
      go_roundw
      case rel =>
        have h := acc_or .u16 b k hlt (by simp [IntKind.bits]; omega) (fits_u16 b.size hb)
        exact ⟨k + 1, hlt, by go_num, val_int (by rw [← h, byte_u16]), below_drewN hbel _⟩
      case measure => simp [intOf]; omega
    · obtain rfl : k = b.size := by omega
      go_wp2
      go_ret
      exact ⟨ret_int (acc_all b), hbel⟩

set_option maxHeartbeats 400000 in
theorem asm32 (b : ByteArray) (w : World) (hb : b.size ≤ 4) :
    Calls Try.prog 29 #[.string b] w fun e w' => e = .returned (.int .u32 (bnum b)) ∧ Below w.heap.size w w' := by
  go_enter Try.func29, Try.ntmps29
  go_wp2
  go_loopw [3, 7] (fun n i wr => ∃ k : Nat, k ≤ b.size ∧ i = .int .i64 k ∧ n = .int .u32 (acc b k) ∧ Below w.heap.size w wr) (fun _ i _ => b.size - (intOf i).toNat)
  case atStart => exact ⟨0, Nat.zero_le _, rfl, by rw [acc_zero], Below.refl _ _⟩
  case round =>
    obtain ⟨k, hk, rfl, rfl, hbel⟩ := hrel
    by_cases hlt : k < b.size
    · go_wp2
      go_quiet ((go_at_call 30; exact shift_q k b.size _ _ (by omega) (by omega) (by omega)))
      go_wp2
      go_roundw
      case rel =>
        have h := acc_or .u32 b k hlt (by simp [IntKind.bits]; omega) (fits_u32 b.size hb)
        exact ⟨k + 1, hlt, by go_num, val_int (by rw [← h, IntKind.wrap_u32, byte_mod32]), below_drewN hbel _⟩
      case measure => simp [intOf]; omega
    · obtain rfl : k = b.size := by omega
      go_wp2
      go_ret
      exact ⟨ret_int (acc_all b), hbel⟩
end Go.Proofs.Ytpgcklncengljaa
