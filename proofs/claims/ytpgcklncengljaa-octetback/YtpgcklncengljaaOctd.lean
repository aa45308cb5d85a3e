/- Contracts of octet.put, Put16 and Put32: the bytes of the number, the most significant one first. -/
import Derived.Test.YtpgcklncengljaaOctc
import Derived.Laws.IdiomStrings
import Derived.Deep.Draws
namespace Go.Proofs.Ytpgcklncengljaa
open Go.RowKit
set_option linter.unusedVariables false

def Blk (w : World) (g : Nat) (t : TypeId) (cs : Array Value) : Prop := w.heap[g]? = some (.cells cs t (0, 0))
section
variable {w w' : World} {g : Nat} {t : TypeId} {cs : Array Value}
theorem Blk.lt (h : Blk w g t cs) : g < w.heap.size := by
  rcases Nat.lt_or_ge g w.heap.size with hlt | hge
  · exact hlt
  · unfold Blk at h; rw [Array.getElem?_eq_none hge] at h; cases h
theorem Blk.cell (h : Blk w g t cs) (i : Nat) : w.cell? ⟨g, i, none⟩ = cs[i]? := cell_of_row w g i cs t (0, 0) h
theorem Blk.frozen (h : Blk w g t cs) (i : Nat) : w.frozen? ⟨g, i, none⟩ = false := by
  unfold Blk at h
  simp [World.frozen?, h]
theorem Blk.new (w : World) (t : TypeId) (cs : Array Value) : Blk (w.alloc (.cells cs t)) w.heap.size t cs := heap_alloc_new w _
theorem Blk.set_ (h : Blk w g t cs) (i : Nat) (u : Value) : Blk (w.setCell ⟨g, i, none⟩ u) g t (cs.setIfInBounds i u) := by
  unfold Blk at h ⊢
  simp [World.setCell, Array.getElem?_modify, h]
end

/-- Byte i of a number of m bytes. -/
def byteAt (n : Int) (m i : Nat) : UInt8 := UInt8.ofNat (n / 2 ^ (8 * (m - 1 - i))).toNat
/-- The bytes of a number. -/
def bytesOf (n : Int) (m : Nat) : List UInt8 := (List.range m).map (byteAt n m)
/-- The cells behind k rounds. -/
def putCells (n : Int) (m k : Nat) : Array Value := ((List.range m).map fun i => if i < k then Value.int .u8 (byteAt n m i).toNat else .int .u8 0).toArray

theorem putCells_at (n : Int) (m k i : Nat) (h : i < m) : (putCells n m k)[i]? = some (if i < k then Value.int .u8 (byteAt n m i).toNat else .int .u8 0) := by
  simp [putCells, h]
theorem putCells_set (n : Int) (m k : Nat) (h : k < m) : (putCells n m k).setIfInBounds k (.int .u8 (byteAt n m k).toNat) = putCells n m (k + 1) := by
  apply Array.ext_getElem?
  intro i
  rw [Array.getElem?_setIfInBounds]
  by_cases hi : i < m
  · rw [putCells_at n m k i hi, putCells_at n m (k + 1) i hi]
    by_cases e : k = i
    · subst e; simp [putCells, h]
    · rw [if_neg e]
      by_cases h1 : i < k
      · rw [if_pos h1, if_pos (by omega)]
      · rw [if_neg h1, if_neg (by omega)]
  · have e : k ≠ i := by omega
    rw [if_neg e]
    simp [putCells, hi]

theorem byteAt_toNat (n : Int) (m i : Nat) (h : 0 ≤ n) : ((byteAt n m i).toNat : Int) = n / 2 ^ (8 * (m - 1 - i)) % 256 := by
  have hp : (0 : Int) ≤ 2 ^ (8 * (m - 1 - i)) := by
    have : 0 < 2 ^ (8 * (m - 1 - i)) := Nat.two_pow_pos _
    have : (0 : Int) < 2 ^ (8 * (m - 1 - i)) := by exact_mod_cast this
    omega
  have hq : 0 ≤ n / 2 ^ (8 * (m - 1 - i)) := Int.ediv_nonneg h hp
  unfold byteAt
  generalize n / 2 ^ (8 * (m - 1 - i)) = q at *
  rw [UInt8.toNat_ofNat']
  omega
theorem bytesOf_length (n : Int) (m : Nat) : (bytesOf n m).length = m := by simp [bytesOf]
theorem putCells_done {w : World} {g : Nat} (n : Int) (m : Nat) (h : Blk w g 5 (putCells n m m)) (j : Nat) (hj : j < (bytesOf n m).length) :
    w.cell? (Addr.add ⟨g, 0, none⟩ j) = some (.int .u8 ((bytesOf n m)[j].toNat : Int)) := by
  have hj' : j < m := by simpa [bytesOf] using hj
  have e : Addr.add ⟨g, 0, none⟩ j = ⟨g, j, none⟩ := by
    unfold Addr.add
    split
    · rename_i h0; simp_all
    · simp
  rw [e, h.cell j, putCells_at n m m j hj', if_pos hj']
  simp [bytesOf]

set_option maxHeartbeats 400000 in
theorem put16 (n : Int) (w : World) (h0 : 0 ≤ n) (h1 : n < 65536) :
    Calls Try.prog 25 #[.int .u16 n, .int .i64 2] w fun e w' => e = .returned (.string ⟨(bytesOf n 2).toArray⟩) ∧ Below w.heap.size w w' := by
  have hmk : ∀ w : World, (Instr.makeSlice 45 (.int .i64 2) (.int .i64 2)).run Try.prog w = .ok (.slice (some ⟨w.heap.size, 0, none⟩) 2 2) (w.alloc (.cells #[.int .u8 0, .int .u8 0] 5)) := fun _ => by kernel_rfl
  go_enter Try.func25, Try.ntmps25
  go_wp2
  go_loopw [10] (fun i wr => ∃ k : Nat, k ≤ 2 ∧ i = .int .i64 k ∧ Blk wr w.heap.size 5 (putCells n 2 k) ∧ Below w.heap.size w wr) (fun i _ => 2 - (intOf i).toNat)
  case atStart => exact ⟨0, Nat.zero_le _, rfl, Blk.new _ _ _, (Below.refl _ _).alloc (Nat.le_refl _) _⟩
  case round =>
    obtain ⟨k, hk, rfl, hblk, hbel⟩ := hrel
    by_cases hlt : k < 2
    · have hc := hblk.cell k
      rw [putCells_at n 2 k k hlt] at hc
      have hf := hblk.frozen k
      rw [if_neg (by omega)] at hc
      go_wp2_with (go_at_call 30; refine (shift_any k 2 _ (by omega) (by omega) (by omega)).mono ?_; rintro e w' ⟨rfl, rfl⟩)
      go_roundw
      case rel =>
        have hset := hblk.set_ k (.int .u8 (byteAt n 2 k).toNat)
        rw [putCells_set n 2 k hlt, byteAt_toNat n 2 k h0] at hset
        exact ⟨k + 1, hlt, by go_num, hset, hbel.setCell (Nat.le_refl _) _⟩
      case measure => simp [intOf]; omega
    · obtain rfl : k = 2 := by omega
      have hcv := run_convert_bytes_back (P := Try.prog) wr 45 9 5 ⟨w.heap.size, 0, none⟩ 2 (bytesOf n 2) Try.underlying45 Try.underlying5 Try.underlying9 (putCells_done n 2 hblk)
      rw [bytesOf_length] at hcv
      go_wp2
      go_ret
      exact ⟨rfl, hbel⟩

set_option maxHeartbeats 400000 in
theorem Put16 (n : Int) (w : World) (h0 : 0 ≤ n) (h1 : n < 65536) :
    Calls Try.prog 17 #[.int .u16 n] w fun e w' => e = .returned (.string ⟨(bytesOf n 2).toArray⟩) ∧ Below w.heap.size w w' := by
  go_enter Try.func17, Try.ntmps17
  go_wp2_with (go_at_call 25; refine (put16 n _ h0 h1).mono ?_; rintro e w' ⟨rfl, hb⟩)
  go_ret
  exact ⟨rfl, hb⟩

set_option maxHeartbeats 400000 in
theorem put32 (n : Int) (w : World) (h0 : 0 ≤ n) (h1 : n < 4294967296) :
    Calls Try.prog 26 #[.int .u32 n, .int .i64 4] w fun e w' => e = .returned (.string ⟨(bytesOf n 4).toArray⟩) ∧ Below w.heap.size w w' := by
  have hmk : ∀ w : World, (Instr.makeSlice 45 (.int .i64 4) (.int .i64 4)).run Try.prog w = .ok (.slice (some ⟨w.heap.size, 0, none⟩) 4 4) (w.alloc (.cells #[.int .u8 0, .int .u8 0, .int .u8 0, .int .u8 0] 5)) := fun _ => by kernel_rfl
  go_enter Try.func26, Try.ntmps26
  go_wp2
  go_loopw [10] (fun i wr => ∃ k : Nat, k ≤ 4 ∧ i = .int .i64 k ∧ Blk wr w.heap.size 5 (putCells n 4 k) ∧ Below w.heap.size w wr) (fun i _ => 4 - (intOf i).toNat)
  case atStart => exact ⟨0, Nat.zero_le _, rfl, Blk.new _ _ _, (Below.refl _ _).alloc (Nat.le_refl _) _⟩
  case round =>
    obtain ⟨k, hk, rfl, hblk, hbel⟩ := hrel
    by_cases hlt : k < 4
    · have hc := hblk.cell k
      rw [putCells_at n 4 k k hlt] at hc
      have hf := hblk.frozen k
      rw [if_neg (by omega)] at hc
      go_wp2_with (go_at_call 30; refine (shift_any k 4 _ (by omega) (by omega) (by omega)).mono ?_; rintro e w' ⟨rfl, rfl⟩)
      go_roundw
      case rel =>
        have hset := hblk.set_ k (.int .u8 (byteAt n 4 k).toNat)
        rw [putCells_set n 4 k hlt, byteAt_toNat n 4 k h0] at hset
        exact ⟨k + 1, hlt, by go_num, hset, hbel.setCell (Nat.le_refl _) _⟩
      case measure => simp [intOf]; omega
    · obtain rfl : k = 4 := by omega
      have hcv := run_convert_bytes_back (P := Try.prog) wr 45 9 5 ⟨w.heap.size, 0, none⟩ 4 (bytesOf n 4) Try.underlying45 Try.underlying5 Try.underlying9 (putCells_done n 4 hblk)
      rw [bytesOf_length] at hcv
      go_wp2
      go_ret
      exact ⟨rfl, hbel⟩

set_option maxHeartbeats 400000 in
theorem Put32 (n : Int) (w : World) (h0 : 0 ≤ n) (h1 : n < 4294967296) :
    Calls Try.prog 19 #[.int .u32 n] w fun e w' => e = .returned (.string ⟨(bytesOf n 4).toArray⟩) ∧ Below w.heap.size w w' := by
  go_enter Try.func19, Try.ntmps19
  go_wp2_with (go_at_call 26; refine (put32 n _ h0 h1).mono ?_; rintro e w' ⟨rfl, hb⟩)
  go_ret
  exact ⟨rfl, hb⟩

end Go.Proofs.Ytpgcklncengljaa
