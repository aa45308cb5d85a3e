/- Contracts of octet: Some, U8, U16 and the mathematics of big-endian numbers. -/
import Derived.Test.YtdgbmcjlnpfndaaRows
import Derived.WalkKit
import Derived.WalkSpells
import Derived.WalkLawsBesides
import Derived.Lib.Hide
import Derived.Deep.QuietTactic
import Derived.BigQuiet
namespace Go.Proofs.Ytdgbmcjlnpfndaa.Oc
open Go.RowKit
set_option linter.unusedVariables false
set_option maxHeartbeats 400000 in
theorem shift_any (i n : Int) (w : World) (h0 : 0 ≤ i) (h1 : i < n) (h2 : n ≤ 4) :
    Calls Try.prog 23 #[.int .i64 i, .int .i64 n] w fun e w' => e = .returned (.int .i64 (8 * (n - 1 - i))) ∧ w = w' := by
  go_enter Try.func23, Try.ntmps23
  go_wp2
  go_ret
  exact ⟨rfl, rfl⟩

/-- The number that bytes are, the most significant one first. -/
def num (l : List UInt8) : Nat := l.foldl (fun a b => a * 256 + b.toNat) 0

theorem num_snoc (l : List UInt8) (b : UInt8) : num (l ++ [b]) = num l * 256 + b.toNat := by simp [num]
theorem num_lt : ∀ (n : Nat) (l : List UInt8), l.length = n → num l < 256 ^ n := by
  intro n
  induction n with
  | zero => intro l h; have := List.eq_nil_of_length_eq_zero h; subst this; simp [num]
  | succ n ih =>
    intro l h
    obtain ⟨l', b, rfl⟩ : ∃ l' b, l = l' ++ [b] := ⟨l.dropLast, l.getLast (by intro e; simp [e] at h), (List.dropLast_concat_getLast _).symm⟩
    have h' : l'.length = n := by simpa using h
    have := ih l' h'
    have hb := b.toNat_lt
    rw [num_snoc, Nat.pow_succ]
    omega

/-- What stands in the number behind i bytes of b. -/
def acc (b : ByteArray) (i : Nat) : Int := (num (b.data.toList.take i) * 256 ^ (b.size - i) : Nat)

theorem acc_zero (b : ByteArray) : acc b 0 = 0 := by simp [acc, num]
theorem acc_all (b : ByteArray) : acc b b.size = (num b.data.toList : Nat) := by
  have : b.data.toList.take b.size = b.data.toList := List.take_of_length_le (by simp)
  simp [acc, this]
theorem acc_succ (b : ByteArray) (i : Nat) (h : i < b.size) : acc b (i + 1) = acc b i + (b[i].toNat * 256 ^ (b.size - 1 - i) : Nat) := by
  unfold acc
  have e : b.data.toList.take (i + 1) = b.data.toList.take i ++ [b[i]] := by
    rw [List.take_succ_eq_append_getElem (by simpa using h)]; rfl
  rw [e, num_snoc]
  have e2 : b.size - i = (b.size - 1 - i) + 1 := by omega
  have e3 : b.size - (i + 1) = b.size - 1 - i := by omega
  rw [e2, e3, Nat.pow_succ]
  have : num (b.data.toList.take i) * (256 ^ (b.size - 1 - i) * 256) + b[i].toNat * 256 ^ (b.size - 1 - i) = (num (b.data.toList.take i) * 256 + b[i].toNat) * 256 ^ (b.size - 1 - i) := by
    rw [Nat.add_mul, Nat.mul_assoc, Nat.mul_comm 256 _]
  rw [← Int.natCast_add, this]
theorem acc_lt (b : ByteArray) (i : Nat) (h : i ≤ b.size) : 0 ≤ acc b i ∧ acc b i < 256 ^ b.size := by
  unfold acc
  refine ⟨by omega, ?_⟩
  have h1 := num_lt i (b.data.toList.take i) (by simp [List.length_take]; omega)
  have h2 : num (b.data.toList.take i) * 256 ^ (b.size - i) < 256 ^ i * 256 ^ (b.size - i) := Nat.mul_lt_mul_of_pos_right h1 (Nat.pow_pos (by decide))
  rw [← Nat.pow_add, show i + (b.size - i) = b.size from by omega] at h2
  have h3 := Int.ofNat_lt.2 h2
  rw [Int.natCast_pow] at h3
  exact h3
theorem acc_mod (b : ByteArray) (i : Nat) : acc b i % 256 ^ (b.size - i) = 0 := by
  unfold acc
  have : num (b.data.toList.take i) * 256 ^ (b.size - i) % 256 ^ (b.size - i) = 0 := Nat.mul_mod_left _ _
  have h3 := congrArg (Nat.cast (R := Int)) this
  rw [Int.natCast_emod, Int.natCast_pow] at h3
  exact h3

theorem two56 (n : Nat) : (256 : Int) ^ n = 2 ^ (8 * n) := by
  rw [Int.pow_mul]; rfl

/-- One round: a byte's bits go where there are none. -/
theorem acc_or (k : IntKind) (b : ByteArray) (i : Nat) (h : i < b.size) (hj : 8 * b.size ≤ k.bits) (hk : ∀ n : Int, 0 ≤ n → n < 2 ^ (8 * b.size) → k.wrap n = n) :
    bits .or k (acc b i) (k.wrap ((b[i].toNat : Int) * 2 ^ (8 * (b.size - 1 - i)))) = acc b (i + 1) := by
  have hb : (b[i].toNat : Int) < 256 := by have := b[i].toNat_lt; omega
  have hp : (0 : Int) < 2 ^ (8 * (b.size - 1 - i)) := by
    have : 0 < 2 ^ (8 * (b.size - 1 - i)) := Nat.two_pow_pos _
    exact_mod_cast this
  have y0 : 0 ≤ (b[i].toNat : Int) * 2 ^ (8 * (b.size - 1 - i)) := Int.mul_nonneg (by omega) (by omega)
  have y1 : (b[i].toNat : Int) * 2 ^ (8 * (b.size - 1 - i)) < 2 ^ (8 * (b.size - i)) := by
    have : (2 : Int) ^ (8 * (b.size - i)) = 256 * 2 ^ (8 * (b.size - 1 - i)) := by
      rw [show 8 * (b.size - i) = 8 + 8 * (b.size - 1 - i) from by omega, Int.pow_add]; rfl
    rw [this]
    exact Int.mul_lt_mul_of_pos_right hb hp
  have y2 : (2 : Int) ^ (8 * (b.size - i)) ≤ 2 ^ (8 * b.size) := by
    have : 2 ^ (8 * (b.size - i)) ≤ 2 ^ (8 * b.size) := Nat.pow_le_pow_right (by decide) (by omega)
    exact_mod_cast this
  rw [hk _ y0 (Int.lt_of_lt_of_le y1 y2)]
  have a1 := acc_lt b i (by omega)
  have a2 := acc_mod b i
  rw [two56] at a1 a2
  rw [bits_join k (8 * b.size) hj hk (8 * (b.size - i)) _ _ a1.1 a2 a1.2 y0 y1 (Int.lt_of_lt_of_le y1 y2), acc_succ b i h]
  have : ((256 ^ (b.size - 1 - i) : Nat) : Int) = 2 ^ (8 * (b.size - 1 - i)) := by rw [← two56]; simp
  rw [Int.natCast_mul, this]
theorem shift_q (i n : Int) (w : World) (m : Nat) (h0 : 0 ≤ i) (h1 : i < n) (h2 : n ≤ 4) :
    Calls Try.prog 23 #[.int .i64 i, .int .i64 n] (w.drewN m) fun e w' => e = .returned (.int .i64 (8 * (n - 1 - i))) ∧ ∃ m', w' = w.drewN m' :=
  (shift_any i n _ h0 h1 h2).mono fun _ _ ⟨he, hw⟩ => ⟨he, m, hw.symm⟩

theorem below_drewN {B : Nat} {a w : World} (h : Below B a w) (n : Nat) : Below B a (w.drewN n) := ⟨h.os, h.tape, h.output, h.size, h.block⟩

theorem byte_u8 (b : UInt8) : IntKind.u8.wrap (b.toNat : Int) = b.toNat := IntWalk.u8_in _ (by have := b.toNat_lt; omega)
theorem byte_u16 (b : UInt8) : IntKind.u16.wrap (b.toNat : Int) = b.toNat := IntWalk.u16_in _ (by have := b.toNat_lt; omega)
theorem fits_u8 (s : Nat) (h : s ≤ 1) (n : Int) (h0 : 0 ≤ n) (h1 : n < 2 ^ (8 * s)) : IntKind.u8.wrap n = n := by
  refine IntWalk.u8_in _ ⟨h0, ?_⟩
  have : (2 : Int) ^ (8 * s) ≤ 2 ^ 8 := by
    have : 2 ^ (8 * s) ≤ 2 ^ 8 := Nat.pow_le_pow_right (by decide) (by omega)
    exact_mod_cast this
  omega
theorem fits_u16 (s : Nat) (h : s ≤ 2) (n : Int) (h0 : 0 ≤ n) (h1 : n < 2 ^ (8 * s)) : IntKind.u16.wrap n = n := by
  refine IntWalk.u16_in _ ⟨h0, ?_⟩
  have : (2 : Int) ^ (8 * s) ≤ 2 ^ 16 := by
    have : 2 ^ (8 * s) ≤ 2 ^ 16 := Nat.pow_le_pow_right (by decide) (by omega)
    exact_mod_cast this
  omega
/-- The number that a string's bytes are. -/
def bnum (b : ByteArray) : Int := (num b.data.toList : Nat)
theorem ret_int {k : IntKind} {a b : Int} (h : a = b) : Ending.returned (.int k a) = .returned (.int k b) := by rw [h]
theorem val_int {k : IntKind} {a b : Int} (h : a = b) : Value.int k a = .int k b := by rw [h]

theorem extract_list (s : ByteArray) (a b : Nat) : (s.extract a b).data.toList = (s.data.toList.take b).drop a := by
  rw [ByteArray.data_extract, Array.toList_extract]
  simp only [List.extract]
  rw [List.drop_take]

end Go.Proofs.Ytdgbmcjlnpfndaa.Oc
