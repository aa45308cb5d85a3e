/- Joined texts: Oca Ocd Oce. -/
import Derived.Test.YtnakljbginbenaaGreatDoorRows
import Derived.WalkKit
import Derived.WalkSpells
import Derived.WalkLawsBesides
import Derived.Lib.Hide
import Derived.Deep.QuietTactic
import Derived.BigQuiet
import Derived.Laws.IdiomStrings
import Derived.Deep.Draws
import Derived.OpenShut
import Derived.Laws.BytesArg

/- Contracts of octet: Some, U8, U16 and the mathematics of big-endian numbers. -/
namespace Go.Proofs.YtnakljbginbenaaGreatDoor.Oc
open Go.RowKit
set_option linter.unusedVariables false
set_option maxHeartbeats 400000 in
theorem shift_any (i n : Int) (w : World) (h0 : 0 ≤ i) (h1 : i < n) (h2 : n ≤ 4) :
    Calls Tryz.prog 103 #[.int .i64 i, .int .i64 n] w fun e w' => e = .returned (.int .i64 (8 * (n - 1 - i))) ∧ w = w' := by
  go_enter Tryz.func103, Tryz.ntmps103
  go_wp2
  go_ret
  exact ⟨rfl, rfl⟩

set_option maxHeartbeats 400000 in
theorem some_yes (s : ByteArray) (p m : Int) (w : World) (hs : s.size ≤ maxLen) (h0 : 0 ≤ p) (h1 : 0 ≤ m) (h2 : p + m ≤ s.size) :
    Calls Tryz.prog 101 #[.string s, .int .i64 p, .int .i64 m] w fun e w' => e = .returned (.tuple #[.string (s.extract p.toNat (p + m).toNat), .int .i64 (p + m), .int .i64 0]) ∧ w = w' := by
  unfold maxLen at hs
  go_enter Tryz.func101, Tryz.ntmps101
  go_wp2
  go_ret3
  exact ⟨rfl, rfl⟩

set_option maxHeartbeats 400000 in
theorem some_no (s : ByteArray) (p m : Int) (w : World) (hs : s.size ≤ maxLen) (hp : p ≤ maxLen) (h : p < 0 ∨ m < 0 ∨ s.size < p + m) :
    Calls Tryz.prog 101 #[.string s, .int .i64 p, .int .i64 m] w fun e w' => e = .returned (.tuple #[.string ⟨#[]⟩, .int .i64 0, .int .i64 2]) ∧ w = w' := by
  unfold maxLen at hs hp
  by_cases a0 : p < 0
  · clear h
    go_enter Tryz.func101, Tryz.ntmps101
    go_wp2
    go_ret3
    exact ⟨rfl, rfl⟩
  by_cases a1 : m < 0
  · clear h
    go_enter Tryz.func101, Tryz.ntmps101
    go_wp2
    go_ret3
    exact ⟨rfl, rfl⟩
  have a2 : s.size - p < m := by omega
  clear h
  go_enter Tryz.func101, Tryz.ntmps101
  go_wp2
  go_ret3
  exact ⟨rfl, rfl⟩
/-- The number that bytes are, the most significant one first. -/
def num (l : List UInt8) : Nat := l.foldl (fun a b => a * 256 + b.toNat) 0

theorem num_snoc (l : List UInt8) (b : UInt8) : num (l ++ [b]) = num l * 256 + b.toNat := by simp [num]
theorem num_lt : ∀ (n : Nat) (l : List UInt8), l.length = n → num l < 256 ^ n := by
  intro n
  induction n with
  | zero => intro l h; have := List.eq_nil_of_length_eq_zero h; subst this; simp [num]
  | succ n ih =>
    intro l h
    obtain ⟨l', b, rfl⟩ : ∃ l' b, l = l' ++ [b] := ⟨l.dropLast, l.getLast (by intro e; simp [e] at h), (List.dropLast_concat_getLast _).symm⟩
    have h' : l'.length = n := by simpa using h
    have := ih l' h'
    have hb := b.toNat_lt
    rw [num_snoc, Nat.pow_succ]
    omega

/-- What stands in the number behind i bytes of b. -/
def acc (b : ByteArray) (i : Nat) : Int := (num (b.data.toList.take i) * 256 ^ (b.size - i) : Nat)

theorem acc_zero (b : ByteArray) : acc b 0 = 0 := by simp [acc, num]
theorem acc_all (b : ByteArray) : acc b b.size = (num b.data.toList : Nat) := by
  have : b.data.toList.take b.size = b.data.toList := List.take_of_length_le (by simp)
  simp [acc, this]
theorem acc_succ (b : ByteArray) (i : Nat) (h : i < b.size) : acc b (i + 1) = acc b i + (b[i].toNat * 256 ^ (b.size - 1 - i) : Nat) := by
  unfold acc
  have e : b.data.toList.take (i + 1) = b.data.toList.take i ++ [b[i]] := by
    rw [List.take_succ_eq_append_getElem (by simpa using h)]; rfl
  rw [e, num_snoc]
  have e2 : b.size - i = (b.size - 1 - i) + 1 := by omega
  have e3 : b.size - (i + 1) = b.size - 1 - i := by omega
  rw [e2, e3, Nat.pow_succ]
  have : num (b.data.toList.take i) * (256 ^ (b.size - 1 - i) * 256) + b[i].toNat * 256 ^ (b.size - 1 - i) = (num (b.data.toList.take i) * 256 + b[i].toNat) * 256 ^ (b.size - 1 - i) := by
    rw [Nat.add_mul, Nat.mul_assoc, Nat.mul_comm 256 _]
  rw [← Int.natCast_add, this]
theorem acc_lt (b : ByteArray) (i : Nat) (h : i ≤ b.size) : 0 ≤ acc b i ∧ acc b i < 256 ^ b.size := by
  unfold acc
  refine ⟨by omega, ?_⟩
  have h1 := num_lt i (b.data.toList.take i) (by simp [List.length_take]; omega)
  have h2 : num (b.data.toList.take i) * 256 ^ (b.size - i) < 256 ^ i * 256 ^ (b.size - i) := Nat.mul_lt_mul_of_pos_right h1 (Nat.pow_pos (by decide))
  rw [← Nat.pow_add, show i + (b.size - i) = b.size from by omega] at h2
  have h3 := Int.ofNat_lt.2 h2
  rw [Int.natCast_pow] at h3
  exact h3
theorem acc_mod (b : ByteArray) (i : Nat) : acc b i % 256 ^ (b.size - i) = 0 := by
  unfold acc
  have : num (b.data.toList.take i) * 256 ^ (b.size - i) % 256 ^ (b.size - i) = 0 := Nat.mul_mod_left _ _
  have h3 := congrArg (Nat.cast (R := Int)) this
  rw [Int.natCast_emod, Int.natCast_pow] at h3
  exact h3

theorem two56 (n : Nat) : (256 : Int) ^ n = 2 ^ (8 * n) := by
  rw [Int.pow_mul]; rfl

/-- One round: a byte's bits go where there are none. -/
theorem acc_or (k : IntKind) (b : ByteArray) (i : Nat) (h : i < b.size) (hj : 8 * b.size ≤ k.bits) (hk : ∀ n : Int, 0 ≤ n → n < 2 ^ (8 * b.size) → k.wrap n = n) :
    bits .or k (acc b i) (k.wrap ((b[i].toNat : Int) * 2 ^ (8 * (b.size - 1 - i)))) = acc b (i + 1) := by
  have hb : (b[i].toNat : Int) < 256 := by have := b[i].toNat_lt; omega
  have hp : (0 : Int) < 2 ^ (8 * (b.size - 1 - i)) := by
    have : 0 < 2 ^ (8 * (b.size - 1 - i)) := Nat.two_pow_pos _
    exact_mod_cast this
  have y0 : 0 ≤ (b[i].toNat : Int) * 2 ^ (8 * (b.size - 1 - i)) := Int.mul_nonneg (by omega) (by omega)
  have y1 : (b[i].toNat : Int) * 2 ^ (8 * (b.size - 1 - i)) < 2 ^ (8 * (b.size - i)) := by
    have : (2 : Int) ^ (8 * (b.size - i)) = 256 * 2 ^ (8 * (b.size - 1 - i)) := by
      rw [show 8 * (b.size - i) = 8 + 8 * (b.size - 1 - i) from by omega, Int.pow_add]; rfl
    rw [this]
    exact Int.mul_lt_mul_of_pos_right hb hp
  have y2 : (2 : Int) ^ (8 * (b.size - i)) ≤ 2 ^ (8 * b.size) := by
    have : 2 ^ (8 * (b.size - i)) ≤ 2 ^ (8 * b.size) := Nat.pow_le_pow_right (by decide) (by omega)
    exact_mod_cast this
  rw [hk _ y0 (Int.lt_of_lt_of_le y1 y2)]
  have a1 := acc_lt b i (by omega)
  have a2 := acc_mod b i
  rw [two56] at a1 a2
  rw [bits_join k (8 * b.size) hj hk (8 * (b.size - i)) _ _ a1.1 a2 a1.2 y0 y1 (Int.lt_of_lt_of_le y1 y2), acc_succ b i h]
  have : ((256 ^ (b.size - 1 - i) : Nat) : Int) = 2 ^ (8 * (b.size - 1 - i)) := by rw [← two56]; simp
  rw [Int.natCast_mul, this]
theorem shift_q (i n : Int) (w : World) (m : Nat) (h0 : 0 ≤ i) (h1 : i < n) (h2 : n ≤ 4) :
    Calls Tryz.prog 103 #[.int .i64 i, .int .i64 n] (w.drewN m) fun e w' => e = .returned (.int .i64 (8 * (n - 1 - i))) ∧ ∃ m', w' = w.drewN m' :=
  (shift_any i n _ h0 h1 h2).mono fun _ _ ⟨he, hw⟩ => ⟨he, m, hw.symm⟩

theorem below_drewN {B : Nat} {a w : World} (h : Below B a w) (n : Nat) : Below B a (w.drewN n) := ⟨h.os, h.tape, h.output, h.size, h.block⟩

theorem byte_u8 (b : UInt8) : IntKind.u8.wrap (b.toNat : Int) = b.toNat := IntWalk.u8_in _ (by have := b.toNat_lt; omega)
theorem byte_u16 (b : UInt8) : IntKind.u16.wrap (b.toNat : Int) = b.toNat := IntWalk.u16_in _ (by have := b.toNat_lt; omega)
theorem fits_u8 (s : Nat) (h : s ≤ 1) (n : Int) (h0 : 0 ≤ n) (h1 : n < 2 ^ (8 * s)) : IntKind.u8.wrap n = n := by
  refine IntWalk.u8_in _ ⟨h0, ?_⟩
  have : (2 : Int) ^ (8 * s) ≤ 2 ^ 8 := by
    have : 2 ^ (8 * s) ≤ 2 ^ 8 := Nat.pow_le_pow_right (by decide) (by omega)
    exact_mod_cast this
  omega
theorem fits_u16 (s : Nat) (h : s ≤ 2) (n : Int) (h0 : 0 ≤ n) (h1 : n < 2 ^ (8 * s)) : IntKind.u16.wrap n = n := by
  refine IntWalk.u16_in _ ⟨h0, ?_⟩
  have : (2 : Int) ^ (8 * s) ≤ 2 ^ 16 := by
    have : 2 ^ (8 * s) ≤ 2 ^ 16 := Nat.pow_le_pow_right (by decide) (by omega)
    exact_mod_cast this
  omega
/-- The number that a string's bytes are. -/
def bnum (b : ByteArray) : Int := (num b.data.toList : Nat)
theorem ret_int {k : IntKind} {a b : Int} (h : a = b) : Ending.returned (.int k a) = .returned (.int k b) := by rw [h]
theorem val_int {k : IntKind} {a b : Int} (h : a = b) : Value.int k a = .int k b := by rw [h]

set_option maxHeartbeats 400000 in
theorem asm8 (b : ByteArray) (w : World) (hb : b.size ≤ 1) :
    Calls Tryz.prog 133 #[.string b] w fun e w' => e = .returned (.int .u8 (bnum b)) ∧ Below w.heap.size w w' := by
  go_enter Tryz.func133, Tryz.ntmps133
  go_wp2
  go_loopw [3, 7] (fun n i wr => ∃ k : Nat, k ≤ b.size ∧ i = .int .i64 k ∧ n = .int .u8 (acc b k) ∧ Below w.heap.size w wr) (fun _ i _ => b.size - (intOf i).toNat)
  case atStart => exact ⟨0, Nat.zero_le _, rfl, by rw [acc_zero], Below.refl _ _⟩
  case round =>
    obtain ⟨k, hk, rfl, rfl, hbel⟩ := hrel
    by_cases hlt : k < b.size
    · go_wp2
      go_quiet ((go_at_call 103; exact shift_q k b.size _ _ (by omega) (by omega) (by omega)))
      go_wp2
      go_roundw
      case rel =>
        have h := acc_or .u8 b k hlt (by simp [IntKind.bits]; omega) (fits_u8 b.size hb)
        exact ⟨k + 1, hlt, by go_num, val_int (by rw [← h, IntKind.wrap_u8, show b.size - 1 - k = 0 from by omega]; simp only [Nat.mul_zero, Int.pow_zero, Int.mul_one]), below_drewN hbel _⟩
      case measure => simp [intOf]; omega
    · obtain rfl : k = b.size := by omega
      go_wp2
      go_ret
      exact ⟨ret_int (acc_all b), hbel⟩

set_option maxHeartbeats 400000 in
theorem asm16 (b : ByteArray) (w : World) (hb : b.size ≤ 2) :
    Calls Tryz.prog 102 #[.string b] w fun e w' => e = .returned (.int .u16 (bnum b)) ∧ Below w.heap.size w w' := by
  go_enter Tryz.func102, Tryz.ntmps102
  go_wp2
  go_loopw [3, 7] (fun n i wr => ∃ k : Nat, k ≤ b.size ∧ i = .int .i64 k ∧ n = .int .u16 (acc b k) ∧ Below w.heap.size w wr) (fun _ i _ => b.size - (intOf i).toNat)
  case atStart => exact ⟨0, Nat.zero_le _, rfl, by rw [acc_zero], Below.refl _ _⟩
  case round =>
    obtain ⟨k, hk, rfl, rfl, hbel⟩ := hrel
    by_cases hlt : k < b.size
    · go_wp2
      go_quiet ((go_at_call 103; exact shift_q k b.size _ _ (by omega) (by omega) (by omega)))
      go_wp2
      go_roundw
      case rel =>
        have h := acc_or .u16 b k hlt (by simp [IntKind.bits]; omega) (fits_u16 b.size hb)
        exact ⟨k + 1, hlt, by go_num, val_int (by rw [← h, byte_u16]), below_drewN hbel _⟩
      case measure => simp [intOf]; omega
    · obtain rfl : k = b.size := by omega
      go_wp2
      go_ret
      exact ⟨ret_int (acc_all b), hbel⟩

theorem extract_list (s : ByteArray) (a b : Nat) : (s.extract a b).data.toList = (s.data.toList.take b).drop a := by
  rw [ByteArray.data_extract, Array.toList_extract]
  simp only [List.extract]
  rw [List.drop_take]

set_option maxHeartbeats 400000 in
theorem take8_yes (s : ByteArray) (p : Int) (w : World) (hs : s.size ≤ maxLen) (h0 : 0 ≤ p) (h2 : p + 1 ≤ s.size) :
    Calls Tryz.prog 131 #[.string s, .int .i64 p, .int .i64 1] w fun e w' => e = .returned (.tuple #[.int .u8 (bnum (s.extract p.toNat (p + 1).toNat)), .int .i64 (p + 1), .int .i64 0]) ∧ Below w.heap.size w w' := by
  have hz : (s.extract p.toNat (p + 1).toNat).size ≤ 1 := by rw [ByteArray.size_extract]; omega
  go_enter Tryz.func131, Tryz.ntmps131
  go_wp2_with (first
    | (go_at_call 101; refine (some_yes s p 1 _ hs h0 (by omega) h2).mono ?_; rintro e w' ⟨rfl, rfl⟩)
    | (go_at_call 133; refine (asm8 _ _ hz).mono ?_; rintro e w' ⟨rfl, hb⟩))
  go_ret3
  exact ⟨rfl, hb⟩

set_option maxHeartbeats 400000 in
theorem u8_yes (s : ByteArray) (p : Int) (w : World) (hs : s.size ≤ maxLen) (h0 : 0 ≤ p) (h2 : p + 1 ≤ s.size) :
    Calls Tryz.prog 127 #[.string s, .int .i64 p] w fun e w' => e = .returned (.tuple #[.int .u8 (bnum (s.extract p.toNat (p + 1).toNat)), .int .i64 (p + 1), .int .i64 0]) ∧ Below w.heap.size w w' := by
  go_enter Tryz.func127, Tryz.ntmps127
  go_wp2_with (go_at_call 131; refine (take8_yes s p _ hs h0 h2).mono ?_; rintro e w' ⟨rfl, hb⟩)
  go_ret3
  exact ⟨rfl, hb⟩

set_option maxHeartbeats 400000 in
theorem take8_no (s : ByteArray) (p : Int) (w : World) (hs : s.size ≤ maxLen) (hp : p ≤ maxLen) (h : p < 0 ∨ s.size < p + 1) :
    Calls Tryz.prog 131 #[.string s, .int .i64 p, .int .i64 1] w fun e w' => e = .returned (.tuple #[.int .u8 0, .int .i64 0, .int .i64 2]) ∧ w = w' := by
  go_enter Tryz.func131, Tryz.ntmps131
  go_wp2_with (go_at_call 101; refine (some_no s p 1 _ hs hp (by omega)).mono ?_; rintro e w' ⟨rfl, rfl⟩)
  go_ret3
  exact ⟨rfl, rfl⟩

set_option maxHeartbeats 400000 in
theorem u8_no (s : ByteArray) (p : Int) (w : World) (hs : s.size ≤ maxLen) (hp : p ≤ maxLen) (h : p < 0 ∨ s.size < p + 1) :
    Calls Tryz.prog 127 #[.string s, .int .i64 p] w fun e w' => e = .returned (.tuple #[.int .u8 0, .int .i64 0, .int .i64 2]) ∧ w = w' := by
  go_enter Tryz.func127, Tryz.ntmps127
  go_wp2_with (go_at_call 131; refine (take8_no s p _ hs hp h).mono ?_; rintro e w' ⟨rfl, rfl⟩)
  go_ret3
  exact ⟨rfl, rfl⟩

set_option maxHeartbeats 400000 in
theorem take16_yes (s : ByteArray) (p : Int) (w : World) (hs : s.size ≤ maxLen) (h0 : 0 ≤ p) (h2 : p + 2 ≤ s.size) :
    Calls Tryz.prog 72 #[.string s, .int .i64 p, .int .i64 2] w fun e w' => e = .returned (.tuple #[.int .u16 (bnum (s.extract p.toNat (p + 2).toNat)), .int .i64 (p + 2), .int .i64 0]) ∧ Below w.heap.size w w' := by
  have hz : (s.extract p.toNat (p + 2).toNat).size ≤ 2 := by rw [ByteArray.size_extract]; omega
  go_enter Tryz.func72, Tryz.ntmps72
  go_wp2_with (first
    | (go_at_call 101; refine (some_yes s p 2 _ hs h0 (by omega) h2).mono ?_; rintro e w' ⟨rfl, rfl⟩)
    | (go_at_call 102; refine (asm16 _ _ hz).mono ?_; rintro e w' ⟨rfl, hb⟩))
  go_ret3
  exact ⟨rfl, hb⟩

set_option maxHeartbeats 400000 in
theorem u16_yes (s : ByteArray) (p : Int) (w : World) (hs : s.size ≤ maxLen) (h0 : 0 ≤ p) (h2 : p + 2 ≤ s.size) :
    Calls Tryz.prog 43 #[.string s, .int .i64 p] w fun e w' => e = .returned (.tuple #[.int .u16 (bnum (s.extract p.toNat (p + 2).toNat)), .int .i64 (p + 2), .int .i64 0]) ∧ Below w.heap.size w w' := by
  go_enter Tryz.func43, Tryz.ntmps43
  go_wp2_with (go_at_call 72; refine (take16_yes s p _ hs h0 h2).mono ?_; rintro e w' ⟨rfl, hb⟩)
  go_ret3
  exact ⟨rfl, hb⟩

set_option maxHeartbeats 400000 in
theorem take16_no (s : ByteArray) (p : Int) (w : World) (hs : s.size ≤ maxLen) (hp : p ≤ maxLen) (h : p < 0 ∨ s.size < p + 2) :
    Calls Tryz.prog 72 #[.string s, .int .i64 p, .int .i64 2] w fun e w' => e = .returned (.tuple #[.int .u16 0, .int .i64 0, .int .i64 2]) ∧ w = w' := by
  go_enter Tryz.func72, Tryz.ntmps72
  go_wp2_with (go_at_call 101; refine (some_no s p 2 _ hs hp (by omega)).mono ?_; rintro e w' ⟨rfl, rfl⟩)
  go_ret3
  exact ⟨rfl, rfl⟩

set_option maxHeartbeats 400000 in
theorem u16_no (s : ByteArray) (p : Int) (w : World) (hs : s.size ≤ maxLen) (hp : p ≤ maxLen) (h : p < 0 ∨ s.size < p + 2) :
    Calls Tryz.prog 43 #[.string s, .int .i64 p] w fun e w' => e = .returned (.tuple #[.int .u16 0, .int .i64 0, .int .i64 2]) ∧ w = w' := by
  go_enter Tryz.func43, Tryz.ntmps43
  go_wp2_with (go_at_call 72; refine (take16_no s p _ hs hp h).mono ?_; rintro e w' ⟨rfl, rfl⟩)
  go_ret3
  exact ⟨rfl, rfl⟩

end Go.Proofs.YtnakljbginbenaaGreatDoor.Oc

/- Contracts of octet.Put16 and of derrickref01: there, U16, Put16; results as plain functions. -/
namespace Go.Proofs.YtnakljbginbenaaGreatDoor.Oc
open Go.RowKit
set_option linter.unusedVariables false
def Blk (w : World) (g : Nat) (t : TypeId) (cs : Array Value) : Prop := w.heap[g]? = some (.cells cs t (0, 0))
section
variable {w w' : World} {g : Nat} {t : TypeId} {cs : Array Value}
theorem Blk.lt (h : Blk w g t cs) : g < w.heap.size := by
  rcases Nat.lt_or_ge g w.heap.size with hlt | hge
  · exact hlt
  · unfold Blk at h; rw [Array.getElem?_eq_none hge] at h; cases h
theorem Blk.cell (h : Blk w g t cs) (i : Nat) : w.cell? ⟨g, i, none⟩ = cs[i]? := cell_of_row w g i cs t (0, 0) h
theorem Blk.frozen (h : Blk w g t cs) (i : Nat) : w.frozen? ⟨g, i, none⟩ = false := by
  unfold Blk at h
  simp [World.frozen?, h]
theorem Blk.new (w : World) (t : TypeId) (cs : Array Value) : Blk (w.alloc (.cells cs t)) w.heap.size t cs := heap_alloc_new w _
theorem Blk.set_ (h : Blk w g t cs) (i : Nat) (u : Value) : Blk (w.setCell ⟨g, i, none⟩ u) g t (cs.setIfInBounds i u) := by
  unfold Blk at h ⊢
  simp [World.setCell, Array.getElem?_modify, h]
end

/-- Byte i of a number of m bytes. -/
def byteAt (n : Int) (m i : Nat) : UInt8 := UInt8.ofNat (n / 2 ^ (8 * (m - 1 - i))).toNat
/-- The bytes of a number. -/
def bytesOf (n : Int) (m : Nat) : List UInt8 := (List.range m).map (byteAt n m)
/-- The cells behind k rounds. -/
def putCells (n : Int) (m k : Nat) : Array Value := ((List.range m).map fun i => if i < k then Value.int .u8 (byteAt n m i).toNat else .int .u8 0).toArray

theorem putCells_at (n : Int) (m k i : Nat) (h : i < m) : (putCells n m k)[i]? = some (if i < k then Value.int .u8 (byteAt n m i).toNat else .int .u8 0) := by
  simp [putCells, h]
theorem putCells_set (n : Int) (m k : Nat) (h : k < m) : (putCells n m k).setIfInBounds k (.int .u8 (byteAt n m k).toNat) = putCells n m (k + 1) := by
  apply Array.ext_getElem?
  intro i
  rw [Array.getElem?_setIfInBounds]
  by_cases hi : i < m
  · rw [putCells_at n m k i hi, putCells_at n m (k + 1) i hi]
    by_cases e : k = i
    · subst e; simp [putCells, h]
    · rw [if_neg e]
      by_cases h1 : i < k
      · rw [if_pos h1, if_pos (by omega)]
      · rw [if_neg h1, if_neg (by omega)]
  · have e : k ≠ i := by omega
    rw [if_neg e]
    simp [putCells, hi]

theorem byteAt_toNat (n : Int) (m i : Nat) (h : 0 ≤ n) : ((byteAt n m i).toNat : Int) = n / 2 ^ (8 * (m - 1 - i)) % 256 := by
  have hp : (0 : Int) ≤ 2 ^ (8 * (m - 1 - i)) := by
    have : 0 < 2 ^ (8 * (m - 1 - i)) := Nat.two_pow_pos _
    have : (0 : Int) < 2 ^ (8 * (m - 1 - i)) := by exact_mod_cast this
    omega
  have hq : 0 ≤ n / 2 ^ (8 * (m - 1 - i)) := Int.ediv_nonneg h hp
  unfold byteAt
  generalize n / 2 ^ (8 * (m - 1 - i)) = q at *
  rw [UInt8.toNat_ofNat']
  omega
theorem bytesOf_length (n : Int) (m : Nat) : (bytesOf n m).length = m := by simp [bytesOf]
theorem putCells_done {w : World} {g : Nat} (n : Int) (m : Nat) (h : Blk w g 5 (putCells n m m)) (j : Nat) (hj : j < (bytesOf n m).length) :
    w.cell? (Addr.add ⟨g, 0, none⟩ j) = some (.int .u8 ((bytesOf n m)[j].toNat : Int)) := by
  have hj' : j < m := by simpa [bytesOf] using hj
  have e : Addr.add ⟨g, 0, none⟩ j = ⟨g, j, none⟩ := by
    unfold Addr.add
    split
    · rename_i h0; simp_all
    · simp
  rw [e, h.cell j, putCells_at n m m j hj', if_pos hj']
  simp [bytesOf]

set_option maxHeartbeats 400000 in
theorem put16 (n : Int) (w : World) (h0 : 0 ≤ n) (h1 : n < 65536) :
    Calls Tryz.prog 75 #[.int .u16 n, .int .i64 2] w fun e w' => e = .returned (.string ⟨(bytesOf n 2).toArray⟩) ∧ Below w.heap.size w w' := by
  have hmk : ∀ w : World, (Instr.makeSlice 88 (.int .i64 2) (.int .i64 2)).run Tryz.prog w = .ok (.slice (some ⟨w.heap.size, 0, none⟩) 2 2) (w.alloc (.cells #[.int .u8 0, .int .u8 0] 5)) := fun _ => by kernel_rfl
  go_enter Tryz.func75, Tryz.ntmps75
  go_wp2
  go_loopw [10] (fun i wr => ∃ k : Nat, k ≤ 2 ∧ i = .int .i64 k ∧ Blk wr w.heap.size 5 (putCells n 2 k) ∧ Below w.heap.size w wr) (fun i _ => 2 - (intOf i).toNat)
  case atStart => exact ⟨0, Nat.zero_le _, rfl, Blk.new _ _ _, (Below.refl _ _).alloc (Nat.le_refl _) _⟩
  case round =>
    obtain ⟨k, hk, rfl, hblk, hbel⟩ := hrel
    by_cases hlt : k < 2
    · have hc := hblk.cell k
      rw [putCells_at n 2 k k hlt] at hc
      have hf := hblk.frozen k
      rw [if_neg (by omega)] at hc
      go_wp2_with (go_at_call 103; refine (shift_any k 2 _ (by omega) (by omega) (by omega)).mono ?_; rintro e w' ⟨rfl, rfl⟩)
      go_roundw
      case rel =>
        have hset := hblk.set_ k (.int .u8 (byteAt n 2 k).toNat)
        rw [putCells_set n 2 k hlt, byteAt_toNat n 2 k h0] at hset
        exact ⟨k + 1, hlt, by go_num, hset, hbel.setCell (Nat.le_refl _) _⟩
      case measure => simp [intOf]; omega
    · obtain rfl : k = 2 := by omega
      have hcv := run_convert_bytes_back (P := Tryz.prog) wr 88 9 5 ⟨w.heap.size, 0, none⟩ 2 (bytesOf n 2) Tryz.underlying88 Tryz.underlying5 Tryz.underlying9 (putCells_done n 2 hblk)
      rw [bytesOf_length] at hcv
      go_wp2
      go_ret
      exact ⟨rfl, hbel⟩

set_option maxHeartbeats 400000 in
theorem Put16 (n : Int) (w : World) (h0 : 0 ≤ n) (h1 : n < 65536) :
    Calls Tryz.prog 49 #[.int .u16 n] w fun e w' => e = .returned (.string ⟨(bytesOf n 2).toArray⟩) ∧ Below w.heap.size w w' := by
  go_enter Tryz.func49, Tryz.ntmps49
  go_wp2_with (go_at_call 75; refine (put16 n _ h0 h1).mono ?_; rintro e w' ⟨rfl, hb⟩)
  go_ret
  exact ⟨rfl, hb⟩

/-- Are there so many bytes from an offset on? -/
def okS (s : ByteArray) (p m : Int) : Prop := 0 ≤ p ∧ 0 ≤ m ∧ p + m ≤ s.size
instance (s : ByteArray) (p m : Int) : Decidable (okS s p m) := by unfold okS; exact inferInstance
def se (s : ByteArray) (p m : Int) : Int := if okS s p m then 0 else 2
def so (s : ByteArray) (p m : Int) : Int := if okS s p m then p + m else 0
def sx (s : ByteArray) (p m : Int) : ByteArray := if okS s p m then s.extract p.toNat (p + m).toNat else ⟨#[]⟩
def un (s : ByteArray) (p m : Int) : Int := if okS s p m then bnum (s.extract p.toNat (p + m).toNat) else 0

theorem some_any (s : ByteArray) (p m : Int) (w : World) (hs : s.size ≤ maxLen) (hp : p ≤ maxLen) :
    Calls Tryz.prog 101 #[.string s, .int .i64 p, .int .i64 m] w fun e w' => e = .returned (.tuple #[.string (sx s p m), .int .i64 (so s p m), .int .i64 (se s p m)]) ∧ w = w' := by
  by_cases h : okS s p m
  · simp only [sx, so, se, if_pos h]; exact some_yes s p m w hs h.1 h.2.1 h.2.2
  · simp only [sx, so, se, if_neg h]; exact some_no s p m w hs hp (by unfold okS at h; omega)
theorem u8_any (s : ByteArray) (p : Int) (w : World) (hs : s.size ≤ maxLen) (hp : p ≤ maxLen) :
    Calls Tryz.prog 127 #[.string s, .int .i64 p] w fun e w' => e = .returned (.tuple #[.int .u8 (un s p 1), .int .i64 (so s p 1), .int .i64 (se s p 1)]) ∧ Below w.heap.size w w' := by
  by_cases h : okS s p 1
  · simp only [un, so, se, if_pos h]; exact u8_yes s p w hs h.1 h.2.2
  · simp only [un, so, se, if_neg h]; exact (u8_no s p w hs hp (by unfold okS at h; omega)).mono fun _ _ ⟨he, hw⟩ => ⟨he, hw ▸ Below.refl _ _⟩
theorem u16_any (s : ByteArray) (p : Int) (w : World) (hs : s.size ≤ maxLen) (hp : p ≤ maxLen) :
    Calls Tryz.prog 43 #[.string s, .int .i64 p] w fun e w' => e = .returned (.tuple #[.int .u16 (un s p 2), .int .i64 (so s p 2), .int .i64 (se s p 2)]) ∧ Below w.heap.size w w' := by
  by_cases h : okS s p 2
  · simp only [un, so, se, if_pos h]; exact u16_yes s p w hs h.1 h.2.2
  · simp only [un, so, se, if_neg h]; exact (u16_no s p w hs hp (by unfold okS at h; omega)).mono fun _ _ ⟨he, hw⟩ => ⟨he, hw ▸ Below.refl _ _⟩
theorem so_le (s : ByteArray) (p m : Int) (hs : s.size ≤ maxLen) : so s p m ≤ maxLen := by
  unfold so
  split
  · rename_i h; unfold okS at h; omega
  · unfold maxLen; omega

theorem sx_size (s : ByteArray) (p m : Int) : (sx s p m).size ≤ s.size := by
  unfold sx
  split
  · rw [ByteArray.size_extract]; omega
  · exact Nat.zero_le _
theorem num_append (l m : List UInt8) : num (l ++ m) = num l * 256 ^ m.length + num m := by
  generalize hn : m.length = n
  induction n generalizing m with
  | zero => have := List.eq_nil_of_length_eq_zero hn; subst this; simp [num]
  | succ n ih =>
    obtain ⟨m', b, rfl⟩ : ∃ m' b, m = m' ++ [b] := ⟨m.dropLast, m.getLast (by intro e; simp [e] at hn), (List.dropLast_concat_getLast _).symm⟩
    have h' : m'.length = n := by simpa using hn
    rw [← List.append_assoc, num_snoc, num_snoc, ih m' h', Nat.pow_succ, Nat.add_mul, Nat.mul_assoc, Nat.add_assoc]
theorem bnum_append (a b : ByteArray) : bnum (a ++ b) = bnum a * 256 ^ b.size + bnum b := by
  unfold bnum
  have : (a ++ b).data.toList = a.data.toList ++ b.data.toList := by simp
  rw [this, num_append]
  have hl : b.data.toList.length = b.size := by simp
  rw [hl, Int.natCast_add, Int.natCast_mul, Int.natCast_pow]
  rfl
theorem bnum_lt (a : ByteArray) : 0 ≤ bnum a ∧ bnum a < 256 ^ a.size := by
  unfold bnum
  refine ⟨by omega, ?_⟩
  have h := Int.ofNat_lt.2 (num_lt a.size a.data.toList (by simp))
  rw [Int.natCast_pow] at h
  exact h
theorem bthen {a b c : World} (h : Below a.heap.size a b) (k : Below b.heap.size b c) : Below a.heap.size a c := h.trans (k.mono h.size)
theorem balloc {a b : World} (h : Below a.heap.size a b) (o : Obj) : Below a.heap.size a (b.alloc o) := h.alloc h.size o

/-- The bytes of a number, as a string. -/
def bstr (n : Int) (m : Nat) : ByteArray := ⟨(bytesOf n m).toArray⟩
theorem bstr_size (n : Int) (m : Nat) : (bstr n m).size = m := by simp [bstr, ByteArray.size, bytesOf]
theorem Put16b (n : Int) (w : World) (h0 : 0 ≤ n) (h1 : n < 65536) :
    Calls Tryz.prog 49 #[.int .u16 n] w fun e w' => e = .returned (.string (bstr n 2)) ∧ Below w.heap.size w w' := Put16 n w h0 h1
theorem bnum_two (n : Int) (h0 : 0 ≤ n) (h1 : n < 65536) : bnum (bstr n 2) = n := by
  have e : num (bytesOf n 2) = (byteAt n 2 0).toNat * 256 + (byteAt n 2 1).toNat := by simp [bytesOf, num, List.range, List.range.loop]
  have b0 := byteAt_toNat n 2 0 h0
  have b1 := byteAt_toNat n 2 1 h0
  simp only [Nat.reduceMul, Nat.reduceSub, Int.reducePow, Int.pow_zero, Int.ediv_one, Nat.mul_zero] at b0 b1
  show ((num (bytesOf n 2) : Nat) : Int) = n
  rw [e]
  omega
def okB (s : ByteArray) (p m : Int) : Bool := decide (0 ≤ p ∧ 0 ≤ m ∧ p + m ≤ s.size)
theorem okB_yes {s : ByteArray} {p m : Int} (h : okS s p m) : okB s p m = true := by unfold okS at h; simp [okB, h]
theorem okB_no {s : ByteArray} {p m : Int} (h : ¬ okS s p m) : okB s p m = false := by unfold okS at h; simpa [okB] using h
theorem wrapsum16 (a b : UInt8) : IntKind.u16.wrap (IntKind.u16.wrap (256 * IntKind.u16.wrap (a.toNat : Int)) + IntKind.u16.wrap (b.toNat : Int)) = 256 * (a.toNat : Int) + b.toNat := by
  have ha := a.toNat_lt
  have hb := b.toNat_lt
  rw [byte_u16, byte_u16, IntWalk.u16_in (256 * _) (by omega), IntWalk.u16_in _ (by omega)]
theorem bnum_at1 (s : ByteArray) (p : Int) (h0 : 0 ≤ p) (h1 : p + 1 ≤ s.size) : bnum (s.extract p.toNat (p + 1).toNat) = (s[p.toNat]'(by omega)).toNat := by
  have e : (s.extract p.toNat (p + 1).toNat).data.toList = [s[p.toNat]'(by omega)] := by
    rw [extract_list]
    have e2 : (p + 1).toNat = p.toNat + 1 := by omega
    rw [e2, List.take_succ_eq_append_getElem (by simp; omega), List.drop_append, List.drop_of_length_le (by simp; omega)]
    have e3 : p.toNat - (s.data.toList.take p.toNat).length = 0 := by simp; omega
    rw [e3]
    rfl
  unfold bnum
  rw [e]
  simp [num]
theorem bnum_at2 (s : ByteArray) (p : Int) (h0 : 0 ≤ p) (h1 : p + 2 ≤ s.size) : bnum (s.extract p.toNat (p + 2).toNat) = 256 * ((s[p.toNat]'(by omega)).toNat : Int) + (s[p.toNat + 1]'(by omega)).toNat := by
  have hj : s.extract p.toNat (p + 2).toNat = s.extract p.toNat (p + 1).toNat ++ s.extract (p + 1).toNat (p + 1 + 1).toNat := by
    rw [ByteArray.extract_append_extract]
    congr 1 <;> omega
  have z2 : (s.extract (p + 1).toNat (p + 1 + 1).toNat).size = 1 := by rw [ByteArray.size_extract]; omega
  rw [hj, bnum_append, bnum_at1 s p h0 (by omega), bnum_at1 s (p + 1) (by omega) (by omega), z2]
  have e : (p + 1).toNat = p.toNat + 1 := by omega
  simp only [e]
  omega

set_option maxHeartbeats 400000 in
theorem there_any (s : ByteArray) (p m : Int) (w : World) (hs : s.size ≤ 2000) :
    Calls Tryz.prog 69 #[.string s, .int .i64 p, .int .i64 m] w fun e w' => e = .returned (.bool (okB s p m)) ∧ w = w' := by
  by_cases h0 : 0 ≤ p
  · by_cases h1 : p ≤ s.size
    · by_cases h2 : 0 ≤ m
      · by_cases h3 : m ≤ s.size
        · have hb : okB s p m = decide (p + m ≤ (s.size : Int)) := by simp only [okB]; simp [h0, h2]
          rw [hb]
          go_enter Tryz.func69, Tryz.ntmps69
          go_wp2
          go_ret
          exact ⟨rfl, rfl⟩
        · have hb : okB s p m = false := by simp only [okB]; simp; omega
          rw [hb]
          have d : decide (m ≤ (s.size : Int)) = false := by simpa using h3
          go_enter Tryz.func69, Tryz.ntmps69
          go_wp2
          go_ret
          exact ⟨rfl, rfl⟩
      · have hb : okB s p m = false := by simp only [okB]; simp; omega
        rw [hb]
        have d : decide (0 ≤ m) = false := by simpa using h2
        go_enter Tryz.func69, Tryz.ntmps69
        go_wp2
        go_ret
        exact ⟨rfl, rfl⟩
    · have hb : okB s p m = false := by simp only [okB]; simp; omega
      rw [hb]
      have d : decide (p ≤ (s.size : Int)) = false := by simpa using h1
      go_enter Tryz.func69, Tryz.ntmps69
      go_wp2
      go_ret
      exact ⟨rfl, rfl⟩
  · have hb : okB s p m = false := by simp only [okB]; simp; omega
    rw [hb]
    have d : decide (0 ≤ p) = false := by simpa using h0
    go_enter Tryz.func69, Tryz.ntmps69
    go_wp2
    go_ret
    exact ⟨rfl, rfl⟩

set_option maxHeartbeats 400000 in
theorem ru16_any (s : ByteArray) (p : Int) (w : World) (hs : s.size ≤ 2000) :
    Calls Tryz.prog 40 #[.string s, .int .i64 p] w fun e w' => e = .returned (.tuple #[.int .u16 (un s p 2), .int .i64 (so s p 2), .int .i64 (se s p 2)]) ∧ Below w.heap.size w w' := by
  by_cases h : okS s p 2
  · have hb : okB s p 2 = true := okB_yes h
    simp only [un, so, se, if_pos h]
    obtain ⟨p0, _, p1⟩ := h
    have q1 : p < s.size := by omega
    have q2 : p + 1 < s.size := by omega
    have q3 : 0 ≤ p + 1 := by omega
    have q4 : (p + 1).toNat = p.toNat + 1 := by omega
    have q5 : IntKind.i64.wrap (p + 1) = p + 1 := IntWalk.i64_in _ (by omega)
    have q6 : IntKind.i64.wrap (p + 2) = p + 2 := IntWalk.i64_in _ (by omega)
    go_enter Tryz.func40, Tryz.ntmps40
    go_wp2_with (go_at_call 69; refine (there_any s p 2 _ hs).mono ?_; rintro e w1 ⟨rfl, rfl⟩)
    go_quiet (fail)
    go_wp2
    go_ret3
    exact ⟨by rw [bnum_at2 s p p0 p1, ← wrapsum16]; rfl, below_drewN (Below.refl _ _) nq⟩
  · have hb : okB s p 2 = false := okB_no h
    simp only [un, so, se, if_neg h]
    clear h
    go_enter Tryz.func40, Tryz.ntmps40
    go_wp2_with (go_at_call 69; refine (there_any s p 2 _ hs).mono ?_; rintro e w1 ⟨rfl, rfl⟩)
    go_ret3
    exact ⟨rfl, Below.refl _ _⟩

theorem un_lt16 (s : ByteArray) (p : Int) : 0 ≤ un s p 2 ∧ un s p 2 ≤ 65535 := by
  unfold un
  split
  · rename_i h
    have hb := bnum_lt (s.extract p.toNat (p + 2).toNat)
    have hz : (s.extract p.toNat (p + 2).toNat).size = 2 := by unfold okS at h; rw [ByteArray.size_extract]; omega
    rw [hz] at hb
    have e : (256 : Int) ^ 2 = 65536 := rfl
    omega
  · omega
theorem Tryz.info5 : (Tryz.prog.info? 5).map (fun i => (i.zero, i.size, i.bytes)) = some (some (.int .u8 0), 1, 1) := by kernel_rfl

/-- The cells of bytes. -/
def bcells (l : List UInt8) : List Value := l.map fun b => .int .u8 (b.toNat : Int)
theorem bcells_snoc (l : List UInt8) (b : UInt8) : bcells (l ++ [b]) = bcells l ++ [.int .u8 (b.toNat : Int)] := by simp [bcells]

/-- 'string(b)' of a row of the call's own. -/
theorem conv_own {w : World} {B : Nat} {v : Value} (l : List UInt8) (h : w.ownsRow B 5 1 v l.length (bcells l)) :
    (convert 88 9 v).run Tryz.prog w = .ok (.string ⟨l.toArray⟩) w := by
  rcases h.2 with ⟨rfl, h0⟩ | ⟨g, cap, cur, rfl, _⟩
  · have := List.eq_nil_of_length_eq_zero h0
    subst this
    exact run_convert_bytes_nil w 88 5 Tryz.underlying88 Tryz.underlying5 0 0 9 Tryz.underlying9
  · refine run_convert_bytes_back (P := Tryz.prog) w 88 9 5 ⟨g, 0, none⟩ cap l Tryz.underlying88 Tryz.underlying5 Tryz.underlying9 fun j hj => ?_
    exact h.cells (g := g) rfl j _ (by simp [bcells, hj])

theorem conv2 (a b : UInt8) (W : World) : (convert 88 9 (.slice (some ⟨W.heap.size, 0, none⟩) 2 2)).run Tryz.prog (W.alloc (.cells #[.int .u8 (a.toNat : Int), .int .u8 (b.toNat : Int)] 5)) =
    .ok (.string ⟨#[a, b]⟩) (W.alloc (.cells #[.int .u8 (a.toNat : Int), .int .u8 (b.toNat : Int)] 5)) := by
  have h := run_convert_bytes_back (P := Tryz.prog) (W.alloc (.cells #[.int .u8 (a.toNat : Int), .int .u8 (b.toNat : Int)] 5)) 88 9 5 ⟨W.heap.size, 0, none⟩ 2 [a, b] Tryz.underlying88 Tryz.underlying5 Tryz.underlying9 (by
    intro j hj
    have hj' : j = 0 ∨ j = 1 := by simp at hj; omega
    rcases hj' with rfl | rfl <;> simp [Addr.add])
  exact h
theorem conv_two (n : Int) (h0 : 0 ≤ n) (h1 : n < 65536) (W : World) :
    (convert 88 9 (.slice (some ⟨W.heap.size, 0, none⟩) 2 2)).run Tryz.prog (W.alloc (.cells #[.int .u8 (n / 256), .int .u8 (n % 256)] 5)) = .ok (.string (bstr n 2)) (W.alloc (.cells #[.int .u8 (n / 256), .int .u8 (n % 256)] 5)) := by
  have b0 := byteAt_toNat n 2 0 h0
  have b1 := byteAt_toNat n 2 1 h0
  simp only [Nat.reduceMul, Nat.reduceSub, Int.reducePow, Int.pow_zero, Int.ediv_one, Nat.mul_zero] at b0 b1
  have h := conv2 (byteAt n 2 0) (byteAt n 2 1) W
  have e : n / 256 % 256 = n / 256 := by omega
  rw [b0, b1, e] at h
  exact h

set_option maxHeartbeats 400000 in
theorem rput16 (n : Int) (w : World) (h0 : 0 ≤ n) (h1 : n ≤ 65535) :
    Calls Tryz.prog 84 #[.int .u16 n] w fun e w' => e = .returned (.string (bstr n 2)) ∧ Below w.heap.size w w' := by
  have hcv := conv_two n h0 (by omega)
  have hq : n / 256 = IntKind.u16.wrap (n.tdiv 256) % 256 := by
    rw [Int.tdiv_eq_ediv_of_nonneg h0, IntWalk.u16_in _ (by omega)]
    omega
  rw [hq] at hcv
  clear hq
  go_enter Tryz.func84, Tryz.ntmps84
  go_wp2
  go_ret
  exact ⟨rfl, (Below.refl _ _).alloc (Nat.le_refl _) _⟩

end Go.Proofs.YtnakljbginbenaaGreatDoor.Oc

/- Contracts of octet: U32 and Put32, and of derrickref01: U32 and Put32. -/
namespace Go.Proofs.YtnakljbginbenaaGreatDoor.Oc
open Go.RowKit
set_option linter.unusedVariables false

theorem byte_mod32 (b : UInt8) : (b.toNat : Int) % 4294967296 = b.toNat := by have := b.toNat_lt; omega
theorem byte_u32 (b : UInt8) : IntKind.u32.wrap (b.toNat : Int) = b.toNat := IntWalk.u32_in _ (by have := b.toNat_lt; omega)
theorem fits_u32 (s : Nat) (h : s ≤ 4) (n : Int) (h0 : 0 ≤ n) (h1 : n < 2 ^ (8 * s)) : IntKind.u32.wrap n = n := by
  refine IntWalk.u32_in _ ⟨h0, ?_⟩
  have : (2 : Int) ^ (8 * s) ≤ 2 ^ 32 := by
    have : 2 ^ (8 * s) ≤ 2 ^ 32 := Nat.pow_le_pow_right (by decide) (by omega)
    exact_mod_cast this
  omega
set_option maxHeartbeats 400000 in
theorem asm32 (b : ByteArray) (w : World) (hb : b.size ≤ 4) :
    Calls Tryz.prog 129 #[.string b] w fun e w' => e = .returned (.int .u32 (bnum b)) ∧ Below w.heap.size w w' := by
  go_enter Tryz.func129, Tryz.ntmps129
  go_wp2
  go_loopw [3, 7] (fun n i wr => ∃ k : Nat, k ≤ b.size ∧ i = .int .i64 k ∧ n = .int .u32 (acc b k) ∧ Below w.heap.size w wr) (fun _ i _ => b.size - (intOf i).toNat)
  case atStart => exact ⟨0, Nat.zero_le _, rfl, by rw [acc_zero], Below.refl _ _⟩
  case round =>
    obtain ⟨k, hk, rfl, rfl, hbel⟩ := hrel
    by_cases hlt : k < b.size
    · go_wp2
      go_quiet ((go_at_call 103; exact shift_q k b.size _ _ (by omega) (by omega) (by omega)))
      go_wp2
      go_roundw
      case rel =>
        have h := acc_or .u32 b k hlt (by simp [IntKind.bits]; omega) (fits_u32 b.size hb)
        exact ⟨k + 1, hlt, by go_num, val_int (by rw [← h, IntKind.wrap_u32, byte_mod32]), below_drewN hbel _⟩
      case measure => simp [intOf]; omega
    · obtain rfl : k = b.size := by omega
      go_wp2
      go_ret
      exact ⟨ret_int (acc_all b), hbel⟩
set_option maxHeartbeats 400000 in
theorem take32_yes (s : ByteArray) (p : Int) (w : World) (hs : s.size ≤ maxLen) (h0 : 0 ≤ p) (h2 : p + 4 ≤ s.size) :
    Calls Tryz.prog 121 #[.string s, .int .i64 p, .int .i64 4] w fun e w' => e = .returned (.tuple #[.int .u32 (bnum (s.extract p.toNat (p + 4).toNat)), .int .i64 (p + 4), .int .i64 0]) ∧ Below w.heap.size w w' := by
  have hz : (s.extract p.toNat (p + 4).toNat).size ≤ 4 := by rw [ByteArray.size_extract]; omega
  go_enter Tryz.func121, Tryz.ntmps121
  go_wp2_with (first
    | (go_at_call 101; refine (some_yes s p 4 _ hs h0 (by omega) h2).mono ?_; rintro e w' ⟨rfl, rfl⟩)
    | (go_at_call 129; refine (asm32 _ _ hz).mono ?_; rintro e w' ⟨rfl, hb⟩))
  go_ret3
  exact ⟨rfl, hb⟩
set_option maxHeartbeats 400000 in
theorem u32_yes (s : ByteArray) (p : Int) (w : World) (hs : s.size ≤ maxLen) (h0 : 0 ≤ p) (h2 : p + 4 ≤ s.size) :
    Calls Tryz.prog 95 #[.string s, .int .i64 p] w fun e w' => e = .returned (.tuple #[.int .u32 (bnum (s.extract p.toNat (p + 4).toNat)), .int .i64 (p + 4), .int .i64 0]) ∧ Below w.heap.size w w' := by
  go_enter Tryz.func95, Tryz.ntmps95
  go_wp2_with (go_at_call 121; refine (take32_yes s p _ hs h0 h2).mono ?_; rintro e w' ⟨rfl, hb⟩)
  go_ret3
  exact ⟨rfl, hb⟩
set_option maxHeartbeats 400000 in
theorem take32_no (s : ByteArray) (p : Int) (w : World) (hs : s.size ≤ maxLen) (hp : p ≤ maxLen) (h : p < 0 ∨ s.size < p + 4) :
    Calls Tryz.prog 121 #[.string s, .int .i64 p, .int .i64 4] w fun e w' => e = .returned (.tuple #[.int .u32 0, .int .i64 0, .int .i64 2]) ∧ w = w' := by
  go_enter Tryz.func121, Tryz.ntmps121
  go_wp2_with (go_at_call 101; refine (some_no s p 4 _ hs hp (by omega)).mono ?_; rintro e w' ⟨rfl, rfl⟩)
  go_ret3
  exact ⟨rfl, rfl⟩
set_option maxHeartbeats 400000 in
theorem u32_no (s : ByteArray) (p : Int) (w : World) (hs : s.size ≤ maxLen) (hp : p ≤ maxLen) (h : p < 0 ∨ s.size < p + 4) :
    Calls Tryz.prog 95 #[.string s, .int .i64 p] w fun e w' => e = .returned (.tuple #[.int .u32 0, .int .i64 0, .int .i64 2]) ∧ w = w' := by
  go_enter Tryz.func95, Tryz.ntmps95
  go_wp2_with (go_at_call 121; refine (take32_no s p _ hs hp h).mono ?_; rintro e w' ⟨rfl, rfl⟩)
  go_ret3
  exact ⟨rfl, rfl⟩
set_option maxHeartbeats 400000 in
theorem put32 (n : Int) (w : World) (h0 : 0 ≤ n) (h1 : n < 4294967296) :
    Calls Tryz.prog 106 #[.int .u32 n, .int .i64 4] w fun e w' => e = .returned (.string ⟨(bytesOf n 4).toArray⟩) ∧ Below w.heap.size w w' := by
  have hmk : ∀ w : World, (Instr.makeSlice 88 (.int .i64 4) (.int .i64 4)).run Tryz.prog w = .ok (.slice (some ⟨w.heap.size, 0, none⟩) 4 4) (w.alloc (.cells #[.int .u8 0, .int .u8 0, .int .u8 0, .int .u8 0] 5)) := fun _ => by kernel_rfl
  go_enter Tryz.func106, Tryz.ntmps106
  go_wp2
  go_loopw [10] (fun i wr => ∃ k : Nat, k ≤ 4 ∧ i = .int .i64 k ∧ Blk wr w.heap.size 5 (putCells n 4 k) ∧ Below w.heap.size w wr) (fun i _ => 4 - (intOf i).toNat)
  case atStart => exact ⟨0, Nat.zero_le _, rfl, Blk.new _ _ _, (Below.refl _ _).alloc (Nat.le_refl _) _⟩
  case round =>
    obtain ⟨k, hk, rfl, hblk, hbel⟩ := hrel
    by_cases hlt : k < 4
    · have hc := hblk.cell k
      rw [putCells_at n 4 k k hlt] at hc
      have hf := hblk.frozen k
      rw [if_neg (by omega)] at hc
      go_wp2_with (go_at_call 103; refine (shift_any k 4 _ (by omega) (by omega) (by omega)).mono ?_; rintro e w' ⟨rfl, rfl⟩)
      go_roundw
      case rel =>
        have hset := hblk.set_ k (.int .u8 (byteAt n 4 k).toNat)
        rw [putCells_set n 4 k hlt, byteAt_toNat n 4 k h0] at hset
        exact ⟨k + 1, hlt, by go_num, hset, hbel.setCell (Nat.le_refl _) _⟩
      case measure => simp [intOf]; omega
    · obtain rfl : k = 4 := by omega
      have hcv := run_convert_bytes_back (P := Tryz.prog) wr 88 9 5 ⟨w.heap.size, 0, none⟩ 4 (bytesOf n 4) Tryz.underlying88 Tryz.underlying5 Tryz.underlying9 (putCells_done n 4 hblk)
      rw [bytesOf_length] at hcv
      go_wp2
      go_ret
      exact ⟨rfl, hbel⟩
set_option maxHeartbeats 400000 in
theorem Put32 (n : Int) (w : World) (h0 : 0 ≤ n) (h1 : n < 4294967296) :
    Calls Tryz.prog 78 #[.int .u32 n] w fun e w' => e = .returned (.string ⟨(bytesOf n 4).toArray⟩) ∧ Below w.heap.size w w' := by
  go_enter Tryz.func78, Tryz.ntmps78
  go_wp2_with (go_at_call 106; refine (put32 n _ h0 h1).mono ?_; rintro e w' ⟨rfl, hb⟩)
  go_ret
  exact ⟨rfl, hb⟩
theorem u32_any (s : ByteArray) (p : Int) (w : World) (hs : s.size ≤ maxLen) (hp : p ≤ maxLen) :
    Calls Tryz.prog 95 #[.string s, .int .i64 p] w fun e w' => e = .returned (.tuple #[.int .u32 (un s p 4), .int .i64 (so s p 4), .int .i64 (se s p 4)]) ∧ Below w.heap.size w w' := by
  by_cases h : okS s p 4
  · simp only [un, so, se, if_pos h]; exact u32_yes s p w hs h.1 h.2.2
  · simp only [un, so, se, if_neg h]; exact (u32_no s p w hs hp (by unfold okS at h; omega)).mono fun _ _ ⟨he, hw⟩ => ⟨he, hw ▸ Below.refl _ _⟩
theorem un_halves (s : ByteArray) (k : Int) (h0 : 0 ≤ k) (h1 : k + 4 ≤ s.size) : un s k 4 = (un s k 2 % 4294967296 * 65536 + un s (k + 2) 2) % 4294967296 := by
  unfold un
  rw [if_pos (by unfold okS; omega), if_pos (by unfold okS; omega), if_pos (by unfold okS; omega)]
  have hj : s.extract k.toNat (k + 4).toNat = s.extract k.toNat (k + 2).toNat ++ s.extract (k + 2).toNat (k + 2 + 2).toNat := by
    rw [ByteArray.extract_append_extract]
    congr 1 <;> omega
  have z1 : (s.extract k.toNat (k + 2).toNat).size = 2 := by rw [ByteArray.size_extract]; omega
  have z2 : (s.extract (k + 2).toNat (k + 2 + 2).toNat).size = 2 := by rw [ByteArray.size_extract]; omega
  have b1 := bnum_lt (s.extract k.toNat (k + 2).toNat)
  have b2 := bnum_lt (s.extract (k + 2).toNat (k + 2 + 2).toNat)
  rw [hj, bnum_append]
  rw [z1] at b1
  rw [z2] at b2 ⊢
  generalize bnum (s.extract k.toNat (k + 2).toNat) = x at *
  generalize bnum (s.extract (k + 2).toNat (k + 2 + 2).toNat) = y at *
  have e : (256 : Int) ^ 2 = 65536 := rfl
  rw [e] at *
  omega
theorem Put32b (n : Int) (w : World) (h0 : 0 ≤ n) (h1 : n < 4294967296) :
    Calls Tryz.prog 78 #[.int .u32 n] w fun e w' => e = .returned (.string (bstr n 4)) ∧ Below w.heap.size w w' := Put32 n w h0 h1
theorem bnum_four (n : Int) (h0 : 0 ≤ n) (h1 : n < 4294967296) : bnum (bstr n 4) = n := by
  have e : num (bytesOf n 4) = (((byteAt n 4 0).toNat * 256 + (byteAt n 4 1).toNat) * 256 + (byteAt n 4 2).toNat) * 256 + (byteAt n 4 3).toNat := by simp [bytesOf, num, List.range, List.range.loop]
  have b0 := byteAt_toNat n 4 0 h0
  have b1 := byteAt_toNat n 4 1 h0
  have b2 := byteAt_toNat n 4 2 h0
  have b3 := byteAt_toNat n 4 3 h0
  simp only [Nat.reduceMul, Nat.reduceSub, Int.reducePow, Int.pow_zero, Int.ediv_one, Nat.mul_zero] at b0 b1 b2 b3
  show ((num (bytesOf n 4) : Nat) : Int) = n
  rw [e]
  omega
theorem un_four (s : ByteArray) (p : Int) (h0 : 0 ≤ p) (h1 : p + 4 ≤ s.size) : un s p 4 = 65536 * un s p 2 + un s (p + 2) 2 := by
  have h := un_halves s p h0 h1
  have a := un_lt16 s p
  have b := un_lt16 s (p + 2)
  omega
set_option maxHeartbeats 400000 in
theorem ru32_any (s : ByteArray) (p : Int) (w : World) (hs : s.size ≤ 2000) :
    Calls Tryz.prog 99 #[.string s, .int .i64 p] w fun e w' => e = .returned (.tuple #[.int .u32 (un s p 4), .int .i64 (so s p 4), .int .i64 (se s p 4)]) ∧ Below w.heap.size w w' := by
  by_cases h : okS s p 4
  · have hb : okB s p 4 = true := okB_yes h
    have u1 : un s p 4 = 65536 * un s p 2 + un s (p + 2) 2 := un_four s p h.1 h.2.2
    have o1 : so s p 4 = p + 4 := if_pos h
    have e1 : se s p 4 = 0 := if_pos h
    have o2 : so s p 2 = p + 2 := if_pos (by unfold okS at *; omega)
    have o3 : so s (p + 2) 2 = p + 2 + 2 := if_pos (by unfold okS at *; omega)
    rw [u1, o1, e1]
    have b1 := un_lt16 s p
    have b2 := un_lt16 s (p + 2)
    clear u1 o1 e1 h
    have O2 := Lib.hid o2
    have O3 := Lib.hid o3
    clear o2 o3
    go_enter Tryz.func99, Tryz.ntmps99
    go_wp2_with fail
    refine (there_any s p 4 _ hs).mono ?_; rintro e w1 ⟨rfl, rfl⟩
    go_wp2_with fail
    refine (ru16_any s p _ hs).mono ?_; rintro e w1 ⟨rfl, hb1⟩
    go_wp2_with fail
    rw [O2.out]
    refine (ru16_any s (p + 2) _ hs).mono ?_; rintro e w2 ⟨rfl, hb2⟩
    rw [O3.out]
    go_wp2_with fail
    go_ret3
    have e4 : p + 2 + 2 = p + 4 := by omega
    exact ⟨by rw [← e4]; rfl, bthen hb1 hb2⟩
  · have hb : okB s p 4 = false := okB_no h
    simp only [un, so, se, if_neg h]
    clear h
    go_enter Tryz.func99, Tryz.ntmps99
    go_wp2_with (go_at_call 69; refine (there_any s p 4 _ hs).mono ?_; rintro e w1 ⟨rfl, rfl⟩)
    go_ret3
    exact ⟨rfl, Below.refl _ _⟩
theorem bstr_join (n : Int) (h0 : 0 ≤ n) (h1 : n ≤ 4294967295) : bstr (n / 65536) 2 ++ bstr (n % 65536) 2 = bstr n 4 := by
  apply ByteArray.ext
  apply Array.toList_inj.1
  have e2 : ∀ k : Int, (bstr k 2).data.toList = [byteAt k 2 0, byteAt k 2 1] := fun k => rfl
  have e4 : (bstr n 4).data.toList = [byteAt n 4 0, byteAt n 4 1, byteAt n 4 2, byteAt n 4 3] := rfl
  rw [ByteArray.data_append, Array.toList_append, e2, e2, e4]
  have c : ∀ (a b : UInt8), (a.toNat : Int) = b.toNat → a = b := fun a b h => UInt8.toNat_inj.1 (by omega)
  have c0 : byteAt (n / 65536) 2 0 = byteAt n 4 0 := c _ _ (by
    rw [byteAt_toNat _ _ _ (by omega), byteAt_toNat _ _ _ h0]; simp only [Nat.reduceMul, Nat.reduceSub, Int.reducePow]; omega)
  have c1 : byteAt (n / 65536) 2 1 = byteAt n 4 1 := c _ _ (by
    rw [byteAt_toNat _ _ _ (by omega), byteAt_toNat _ _ _ h0]; simp only [Nat.reduceMul, Nat.reduceSub, Int.reducePow, Nat.mul_zero, Int.pow_zero]; omega)
  have c2 : byteAt (n % 65536) 2 0 = byteAt n 4 2 := c _ _ (by
    rw [byteAt_toNat _ _ _ (by omega), byteAt_toNat _ _ _ h0]; simp only [Nat.reduceMul, Nat.reduceSub, Int.reducePow]; omega)
  have c3 : byteAt (n % 65536) 2 1 = byteAt n 4 3 := c _ _ (by
    rw [byteAt_toNat _ _ _ (by omega), byteAt_toNat _ _ _ h0]; simp only [Nat.reduceSub, Nat.mul_zero, Int.pow_zero]; omega)
  rw [c0, c1, c2, c3]
  rfl
set_option maxHeartbeats 400000 in
theorem rput32 (n : Int) (w : World) (h0 : 0 ≤ n) (h1 : n ≤ 4294967295) :
    Calls Tryz.prog 108 #[.int .u32 n] w fun e w' => e = .returned (.string (bstr n 4)) ∧ Below w.heap.size w w' := by
  have hj := bstr_join n h0 h1
  have z1 := bstr_size (n / 65536) 2
  have z2 := bstr_size (n % 65536) 2
  have y : ¬ 9223372036854775807 < (bstr (n / 65536) 2).size + (bstr (n % 65536) 2).size := by omega
  clear z1 z2
  have HJ := Lib.hid hj
  clear hj
  have q0 : 0 ≤ n / 65536 := by omega
  have q1 : n / 65536 ≤ 65535 := by omega
  go_enter Tryz.func108, Tryz.ntmps108
  go_wp2_with fail
  refine (rput16 (n / 65536) _ q0 q1).mono ?_; rintro e w1 ⟨rfl, hb1⟩
  go_wp2_with fail
  refine (rput16 (n % 65536) _ (by omega) (by omega)).mono ?_; rintro e w2 ⟨rfl, hb2⟩
  go_wp2_with fail
  go_ret
  exact ⟨by rw [← HJ.out]; rfl, bthen hb1 hb2⟩
end Go.Proofs.YtnakljbginbenaaGreatDoor.Oc
