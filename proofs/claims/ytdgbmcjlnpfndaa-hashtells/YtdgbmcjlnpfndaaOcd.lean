/- Contracts of octet.Put16 and of derrickref01: there, U16, Put16; results as plain functions. -/
import Derived.Test.YtdgbmcjlnpfndaaOca
import Derived.Laws.IdiomStrings
import Derived.Deep.Draws
import Derived.OpenShut
import Derived.Laws.BytesArg
namespace Go.Proofs.Ytdgbmcjlnpfndaa.Oc
open Go.RowKit
set_option linter.unusedVariables false
def Blk (w : World) (g : Nat) (t : TypeId) (cs : Array Value) : Prop := w.heap[g]? = some (.cells cs t (0, 0))
section
variable {w w' : World} {g : Nat} {t : TypeId} {cs : Array Value}
theorem Blk.lt (h : Blk w g t cs) : g < w.heap.size := by
  rcases Nat.lt_or_ge g w.heap.size with hlt | hge
  · exact hlt
  · unfold Blk at h; rw [Array.getElem?_eq_none hge] at h; cases h
theorem Blk.cell (h : Blk w g t cs) (i : Nat) : w.cell? ⟨g, i, none⟩ = cs[i]? := cell_of_row w g i cs t (0, 0) h
theorem Blk.frozen (h : Blk w g t cs) (i : Nat) : w.frozen? ⟨g, i, none⟩ = false := by
  unfold Blk at h
  simp [World.frozen?, h]
theorem Blk.new (w : World) (t : TypeId) (cs : Array Value) : Blk (w.alloc (.cells cs t)) w.heap.size t cs := heap_alloc_new w _
theorem Blk.set_ (h : Blk w g t cs) (i : Nat) (u : Value) : Blk (w.setCell ⟨g, i, none⟩ u) g t (cs.setIfInBounds i u) := by
  unfold Blk at h ⊢
  simp [World.setCell, Array.getElem?_modify, h]
end

/-- Byte i of a number of m bytes. -/
def byteAt (n : Int) (m i : Nat) : UInt8 := UInt8.ofNat (n / 2 ^ (8 * (m - 1 - i))).toNat
/-- The bytes of a number. -/
def bytesOf (n : Int) (m : Nat) : List UInt8 := (List.range m).map (byteAt n m)
/-- The cells behind k rounds. -/
def putCells (n : Int) (m k : Nat) : Array Value := ((List.range m).map fun i => if i < k then Value.int .u8 (byteAt n m i).toNat else .int .u8 0).toArray

theorem putCells_at (n : Int) (m k i : Nat) (h : i < m) : (putCells n m k)[i]? = some (if i < k then Value.int .u8 (byteAt n m i).toNat else .int .u8 0) := by
  simp [putCells, h]
theorem putCells_set (n : Int) (m k : Nat) (h : k < m) : (putCells n m k).setIfInBounds k (.int .u8 (byteAt n m k).toNat) = putCells n m (k + 1) := by
  apply Array.ext_getElem?
  intro i
  rw [Array.getElem?_setIfInBounds]
  by_cases hi : i < m
  · rw [putCells_at n m k i hi, putCells_at n m (k + 1) i hi]
    by_cases e : k = i
    · subst e; simp [putCells, h]
    · rw [if_neg e]
      by_cases h1 : i < k
      · rw [if_pos h1, if_pos (by omega)]
      · rw [if_neg h1, if_neg (by omega)]
  · have e : k ≠ i := by omega
    rw [if_neg e]
    simp [putCells, hi]

theorem byteAt_toNat (n : Int) (m i : Nat) (h : 0 ≤ n) : ((byteAt n m i).toNat : Int) = n / 2 ^ (8 * (m - 1 - i)) % 256 := by
  have hp : (0 : Int) ≤ 2 ^ (8 * (m - 1 - i)) := by
    have : 0 < 2 ^ (8 * (m - 1 - i)) := Nat.two_pow_pos _
    have : (0 : Int) < 2 ^ (8 * (m - 1 - i)) := by exact_mod_cast this
    omega
  have hq : 0 ≤ n / 2 ^ (8 * (m - 1 - i)) := Int.ediv_nonneg h hp
  unfold byteAt
  generalize n / 2 ^ (8 * (m - 1 - i)) = q at *
  rw [UInt8.toNat_ofNat']
  omega
theorem bytesOf_length (n : Int) (m : Nat) : (bytesOf n m).length = m := by simp [bytesOf]
theorem putCells_done {w : World} {g : Nat} (n : Int) (m : Nat) (h : Blk w g 5 (putCells n m m)) (j : Nat) (hj : j < (bytesOf n m).length) :
    w.cell? (Addr.add ⟨g, 0, none⟩ j) = some (.int .u8 ((bytesOf n m)[j].toNat : Int)) := by
  have hj' : j < m := by simpa [bytesOf] using hj
  have e : Addr.add ⟨g, 0, none⟩ j = ⟨g, j, none⟩ := by
    unfold Addr.add
    split
    · rename_i h0; simp_all
    · simp
  rw [e, h.cell j, putCells_at n m m j hj', if_pos hj']
  simp [bytesOf]

set_option maxHeartbeats 400000 in
theorem put16 (n : Int) (w : World) (h0 : 0 ≤ n) (h1 : n < 65536) :
    Calls Try.prog 22 #[.int .u16 n, .int .i64 2] w fun e w' => e = .returned (.string ⟨(bytesOf n 2).toArray⟩) ∧ Below w.heap.size w w' := by
  have hmk : ∀ w : World, (Instr.makeSlice 38 (.int .i64 2) (.int .i64 2)).run Try.prog w = .ok (.slice (some ⟨w.heap.size, 0, none⟩) 2 2) (w.alloc (.cells #[.int .u8 0, .int .u8 0] 5)) := fun _ => by kernel_rfl
  go_enter Try.func22, Try.ntmps22
  go_wp2
  go_loopw [10] (fun i wr => ∃ k : Nat, k ≤ 2 ∧ i = .int .i64 k ∧ Blk wr w.heap.size 5 (putCells n 2 k) ∧ Below w.heap.size w wr) (fun i _ => 2 - (intOf i).toNat)
  case atStart => exact ⟨0, Nat.zero_le _, rfl, Blk.new _ _ _, (Below.refl _ _).alloc (Nat.le_refl _) _⟩
  case round =>
    obtain ⟨k, hk, rfl, hblk, hbel⟩ := hrel
    by_cases hlt : k < 2
    · have hc := hblk.cell k
      rw [putCells_at n 2 k k hlt] at hc
      have hf := hblk.frozen k
      rw [if_neg (by omega)] at hc
      go_wp2_with (go_at_call 23; refine (shift_any k 2 _ (by omega) (by omega) (by omega)).mono ?_; rintro e w' ⟨rfl, rfl⟩)
      go_roundw
      case rel =>
        have hset := hblk.set_ k (.int .u8 (byteAt n 2 k).toNat)
        rw [putCells_set n 2 k hlt, byteAt_toNat n 2 k h0] at hset
        exact ⟨k + 1, hlt, by go_num, hset, hbel.setCell (Nat.le_refl _) _⟩
      case measure => simp [intOf]; omega
    · obtain rfl : k = 2 := by omega
      have hcv := run_convert_bytes_back (P := Try.prog) wr 38 9 5 ⟨w.heap.size, 0, none⟩ 2 (bytesOf n 2) Try.underlying38 Try.underlying5 Try.underlying9 (putCells_done n 2 hblk)
      rw [bytesOf_length] at hcv
      go_wp2
      go_ret
      exact ⟨rfl, hbel⟩

set_option maxHeartbeats 400000 in
theorem Put16 (n : Int) (w : World) (h0 : 0 ≤ n) (h1 : n < 65536) :
    Calls Try.prog 19 #[.int .u16 n] w fun e w' => e = .returned (.string ⟨(bytesOf n 2).toArray⟩) ∧ Below w.heap.size w w' := by
  go_enter Try.func19, Try.ntmps19
  go_wp2_with (go_at_call 22; refine (put16 n _ h0 h1).mono ?_; rintro e w' ⟨rfl, hb⟩)
  go_ret
  exact ⟨rfl, hb⟩

/-- Are there so many bytes from an offset on? -/
def okS (s : ByteArray) (p m : Int) : Prop := 0 ≤ p ∧ 0 ≤ m ∧ p + m ≤ s.size
instance (s : ByteArray) (p m : Int) : Decidable (okS s p m) := by unfold okS; exact inferInstance
def se (s : ByteArray) (p m : Int) : Int := if okS s p m then 0 else 2
def so (s : ByteArray) (p m : Int) : Int := if okS s p m then p + m else 0
def sx (s : ByteArray) (p m : Int) : ByteArray := if okS s p m then s.extract p.toNat (p + m).toNat else ⟨#[]⟩
def un (s : ByteArray) (p m : Int) : Int := if okS s p m then bnum (s.extract p.toNat (p + m).toNat) else 0

theorem so_le (s : ByteArray) (p m : Int) (hs : s.size ≤ maxLen) : so s p m ≤ maxLen := by
  unfold so
  split
  · rename_i h; unfold okS at h; omega
  · unfold maxLen; omega

theorem sx_size (s : ByteArray) (p m : Int) : (sx s p m).size ≤ s.size := by
  unfold sx
  split
  · rw [ByteArray.size_extract]; omega
  · exact Nat.zero_le _
theorem num_append (l m : List UInt8) : num (l ++ m) = num l * 256 ^ m.length + num m := by
  generalize hn : m.length = n
  induction n generalizing m with
  | zero => have := List.eq_nil_of_length_eq_zero hn; subst this; simp [num]
  | succ n ih =>
    obtain ⟨m', b, rfl⟩ : ∃ m' b, m = m' ++ [b] := ⟨m.dropLast, m.getLast (by intro e; simp [e] at hn), (List.dropLast_concat_getLast _).symm⟩
    have h' : m'.length = n := by simpa using hn
    rw [← List.append_assoc, num_snoc, num_snoc, ih m' h', Nat.pow_succ, Nat.add_mul, Nat.mul_assoc, Nat.add_assoc]
theorem bnum_append (a b : ByteArray) : bnum (a ++ b) = bnum a * 256 ^ b.size + bnum b := by
  unfold bnum
  have : (a ++ b).data.toList = a.data.toList ++ b.data.toList := by simp
  rw [this, num_append]
  have hl : b.data.toList.length = b.size := by simp
  rw [hl, Int.natCast_add, Int.natCast_mul, Int.natCast_pow]
  rfl
theorem bnum_lt (a : ByteArray) : 0 ≤ bnum a ∧ bnum a < 256 ^ a.size := by
  unfold bnum
  refine ⟨by omega, ?_⟩
  have h := Int.ofNat_lt.2 (num_lt a.size a.data.toList (by simp))
  rw [Int.natCast_pow] at h
  exact h
theorem bthen {a b c : World} (h : Below a.heap.size a b) (k : Below b.heap.size b c) : Below a.heap.size a c := h.trans (k.mono h.size)
theorem balloc {a b : World} (h : Below a.heap.size a b) (o : Obj) : Below a.heap.size a (b.alloc o) := h.alloc h.size o

/-- The bytes of a number, as a string. -/
def bstr (n : Int) (m : Nat) : ByteArray := ⟨(bytesOf n m).toArray⟩
theorem bstr_size (n : Int) (m : Nat) : (bstr n m).size = m := by simp [bstr, ByteArray.size, bytesOf]
theorem Put16b (n : Int) (w : World) (h0 : 0 ≤ n) (h1 : n < 65536) :
    Calls Try.prog 19 #[.int .u16 n] w fun e w' => e = .returned (.string (bstr n 2)) ∧ Below w.heap.size w w' := Put16 n w h0 h1
theorem bnum_two (n : Int) (h0 : 0 ≤ n) (h1 : n < 65536) : bnum (bstr n 2) = n := by
  have e : num (bytesOf n 2) = (byteAt n 2 0).toNat * 256 + (byteAt n 2 1).toNat := by simp [bytesOf, num, List.range, List.range.loop]
  have b0 := byteAt_toNat n 2 0 h0
  have b1 := byteAt_toNat n 2 1 h0
  simp only [Nat.reduceMul, Nat.reduceSub, Int.reducePow, Int.pow_zero, Int.ediv_one, Nat.mul_zero] at b0 b1
  show ((num (bytesOf n 2) : Nat) : Int) = n
  rw [e]
  omega
def okB (s : ByteArray) (p m : Int) : Bool := decide (0 ≤ p ∧ 0 ≤ m ∧ p + m ≤ s.size)
theorem okB_yes {s : ByteArray} {p m : Int} (h : okS s p m) : okB s p m = true := by unfold okS at h; simp [okB, h]
theorem okB_no {s : ByteArray} {p m : Int} (h : ¬ okS s p m) : okB s p m = false := by unfold okS at h; simpa [okB] using h
theorem wrapsum16 (a b : UInt8) : IntKind.u16.wrap (IntKind.u16.wrap (256 * IntKind.u16.wrap (a.toNat : Int)) + IntKind.u16.wrap (b.toNat : Int)) = 256 * (a.toNat : Int) + b.toNat := by
  have ha := a.toNat_lt
  have hb := b.toNat_lt
  rw [byte_u16, byte_u16, IntWalk.u16_in (256 * _) (by omega), IntWalk.u16_in _ (by omega)]
theorem bnum_at1 (s : ByteArray) (p : Int) (h0 : 0 ≤ p) (h1 : p + 1 ≤ s.size) : bnum (s.extract p.toNat (p + 1).toNat) = (s[p.toNat]'(by omega)).toNat := by
  have e : (s.extract p.toNat (p + 1).toNat).data.toList = [s[p.toNat]'(by omega)] := by
    rw [extract_list]
    have e2 : (p + 1).toNat = p.toNat + 1 := by omega
    rw [e2, List.take_succ_eq_append_getElem (by simp; omega), List.drop_append, List.drop_of_length_le (by simp; omega)]
    have e3 : p.toNat - (s.data.toList.take p.toNat).length = 0 := by simp; omega
    rw [e3]
    rfl
  unfold bnum
  rw [e]
  simp [num]
theorem bnum_at2 (s : ByteArray) (p : Int) (h0 : 0 ≤ p) (h1 : p + 2 ≤ s.size) : bnum (s.extract p.toNat (p + 2).toNat) = 256 * ((s[p.toNat]'(by omega)).toNat : Int) + (s[p.toNat + 1]'(by omega)).toNat := by
  have hj : s.extract p.toNat (p + 2).toNat = s.extract p.toNat (p + 1).toNat ++ s.extract (p + 1).toNat (p + 1 + 1).toNat := by
    rw [ByteArray.extract_append_extract]
    congr 1 <;> omega
  have z2 : (s.extract (p + 1).toNat (p + 1 + 1).toNat).size = 1 := by rw [ByteArray.size_extract]; omega
  rw [hj, bnum_append, bnum_at1 s p h0 (by omega), bnum_at1 s (p + 1) (by omega) (by omega), z2]
  have e : (p + 1).toNat = p.toNat + 1 := by omega
  simp only [e]
  omega

theorem un_lt16 (s : ByteArray) (p : Int) : 0 ≤ un s p 2 ∧ un s p 2 ≤ 65535 := by
  unfold un
  split
  · rename_i h
    have hb := bnum_lt (s.extract p.toNat (p + 2).toNat)
    have hz : (s.extract p.toNat (p + 2).toNat).size = 2 := by unfold okS at h; rw [ByteArray.size_extract]; omega
    rw [hz] at hb
    have e : (256 : Int) ^ 2 = 65536 := rfl
    omega
  · omega
theorem Try.info5 : (Try.prog.info? 5).map (fun i => (i.zero, i.size, i.bytes)) = some (some (.int .u8 0), 1, 1) := by kernel_rfl

/-- The cells of bytes. -/
def bcells (l : List UInt8) : List Value := l.map fun b => .int .u8 (b.toNat : Int)
theorem bcells_snoc (l : List UInt8) (b : UInt8) : bcells (l ++ [b]) = bcells l ++ [.int .u8 (b.toNat : Int)] := by simp [bcells]

/-- 'string(b)' of a row of the call's own. -/
theorem conv_own {w : World} {B : Nat} {v : Value} (l : List UInt8) (h : w.ownsRow B 5 1 v l.length (bcells l)) :
    (convert 38 9 v).run Try.prog w = .ok (.string ⟨l.toArray⟩) w := by
  rcases h.2 with ⟨rfl, h0⟩ | ⟨g, cap, cur, rfl, _⟩
  · have := List.eq_nil_of_length_eq_zero h0
    subst this
    exact run_convert_bytes_nil w 38 5 Try.underlying38 Try.underlying5 0 0 9 Try.underlying9
  · refine run_convert_bytes_back (P := Try.prog) w 38 9 5 ⟨g, 0, none⟩ cap l Try.underlying38 Try.underlying5 Try.underlying9 fun j hj => ?_
    exact h.cells (g := g) rfl j _ (by simp [bcells, hj])

theorem conv2 (a b : UInt8) (W : World) : (convert 38 9 (.slice (some ⟨W.heap.size, 0, none⟩) 2 2)).run Try.prog (W.alloc (.cells #[.int .u8 (a.toNat : Int), .int .u8 (b.toNat : Int)] 5)) =
    .ok (.string ⟨#[a, b]⟩) (W.alloc (.cells #[.int .u8 (a.toNat : Int), .int .u8 (b.toNat : Int)] 5)) := by
  have h := run_convert_bytes_back (P := Try.prog) (W.alloc (.cells #[.int .u8 (a.toNat : Int), .int .u8 (b.toNat : Int)] 5)) 38 9 5 ⟨W.heap.size, 0, none⟩ 2 [a, b] Try.underlying38 Try.underlying5 Try.underlying9 (by
    intro j hj
    have hj' : j = 0 ∨ j = 1 := by simp at hj; omega
    rcases hj' with rfl | rfl <;> simp [Addr.add])
  exact h
theorem conv_two (n : Int) (h0 : 0 ≤ n) (h1 : n < 65536) (W : World) :
    (convert 38 9 (.slice (some ⟨W.heap.size, 0, none⟩) 2 2)).run Try.prog (W.alloc (.cells #[.int .u8 (n / 256), .int .u8 (n % 256)] 5)) = .ok (.string (bstr n 2)) (W.alloc (.cells #[.int .u8 (n / 256), .int .u8 (n % 256)] 5)) := by
  have b0 := byteAt_toNat n 2 0 h0
  have b1 := byteAt_toNat n 2 1 h0
  simp only [Nat.reduceMul, Nat.reduceSub, Int.reducePow, Int.pow_zero, Int.ediv_one, Nat.mul_zero] at b0 b1
  have h := conv2 (byteAt n 2 0) (byteAt n 2 1) W
  have e : n / 256 % 256 = n / 256 := by omega
  rw [b0, b1, e] at h
  exact h

set_option maxHeartbeats 400000 in
theorem rput16 (n : Int) (w : World) (h0 : 0 ≤ n) (h1 : n ≤ 65535) :
    Calls Try.prog 20 #[.int .u16 n] w fun e w' => e = .returned (.string (bstr n 2)) ∧ Below w.heap.size w w' := by
  have hcv := conv_two n h0 (by omega)
  have hq : n / 256 = IntKind.u16.wrap (n.tdiv 256) % 256 := by
    rw [Int.tdiv_eq_ediv_of_nonneg h0, IntWalk.u16_in _ (by omega)]
    omega
  rw [hq] at hcv
  clear hq
  go_enter Try.func20, Try.ntmps20
  go_wp2
  go_ret
  exact ⟨rfl, (Below.refl _ _).alloc (Nat.le_refl _) _⟩

end Go.Proofs.Ytdgbmcjlnpfndaa.Oc
