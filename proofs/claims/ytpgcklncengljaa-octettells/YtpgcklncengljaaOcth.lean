/- The walk of derricklaw01.OctetHalves: it returns true, whatever the arguments. -/
import Derived.Test.YtpgcklncengljaaOcte
import Derived.OpenShut
namespace Go.Proofs.Ytpgcklncengljaa
open Go.RowKit
set_option linter.unusedVariables false

/-- Are there so many bytes from an offset on? -/
def okS (s : ByteArray) (p m : Int) : Prop := 0 ≤ p ∧ 0 ≤ m ∧ p + m ≤ s.size
instance (s : ByteArray) (p m : Int) : Decidable (okS s p m) := by unfold okS; exact inferInstance
def se (s : ByteArray) (p m : Int) : Int := if okS s p m then 0 else 2
def so (s : ByteArray) (p m : Int) : Int := if okS s p m then p + m else 0
def sx (s : ByteArray) (p m : Int) : ByteArray := if okS s p m then s.extract p.toNat (p + m).toNat else ⟨#[]⟩
def un (s : ByteArray) (p m : Int) : Int := if okS s p m then bnum (s.extract p.toNat (p + m).toNat) else 0

theorem some_any (s : ByteArray) (p m : Int) (w : World) (hs : s.size ≤ maxLen) (hp : p ≤ maxLen) :
    Calls Try.prog 15 #[.string s, .int .i64 p, .int .i64 m] w fun e w' => e = .returned (.tuple #[.string (sx s p m), .int .i64 (so s p m), .int .i64 (se s p m)]) ∧ w = w' := by
  by_cases h : okS s p m
  · simp only [sx, so, se, if_pos h]; exact some_yes s p m w hs h.1 h.2.1 h.2.2
  · simp only [sx, so, se, if_neg h]; exact some_no s p m w hs hp (by unfold okS at h; omega)
theorem u8_any (s : ByteArray) (p : Int) (w : World) (hs : s.size ≤ maxLen) (hp : p ≤ maxLen) :
    Calls Try.prog 9 #[.string s, .int .i64 p] w fun e w' => e = .returned (.tuple #[.int .u8 (un s p 1), .int .i64 (so s p 1), .int .i64 (se s p 1)]) ∧ Below w.heap.size w w' := by
  by_cases h : okS s p 1
  · simp only [un, so, se, if_pos h]; exact u8_yes s p w hs h.1 h.2.2
  · simp only [un, so, se, if_neg h]; exact (u8_no s p w hs hp (by unfold okS at h; omega)).mono fun _ _ ⟨he, hw⟩ => ⟨he, hw ▸ Below.refl _ _⟩
theorem u16_any (s : ByteArray) (p : Int) (w : World) (hs : s.size ≤ maxLen) (hp : p ≤ maxLen) :
    Calls Try.prog 11 #[.string s, .int .i64 p] w fun e w' => e = .returned (.tuple #[.int .u16 (un s p 2), .int .i64 (so s p 2), .int .i64 (se s p 2)]) ∧ Below w.heap.size w w' := by
  by_cases h : okS s p 2
  · simp only [un, so, se, if_pos h]; exact u16_yes s p w hs h.1 h.2.2
  · simp only [un, so, se, if_neg h]; exact (u16_no s p w hs hp (by unfold okS at h; omega)).mono fun _ _ ⟨he, hw⟩ => ⟨he, hw ▸ Below.refl _ _⟩
theorem u32_any (s : ByteArray) (p : Int) (w : World) (hs : s.size ≤ maxLen) (hp : p ≤ maxLen) :
    Calls Try.prog 13 #[.string s, .int .i64 p] w fun e w' => e = .returned (.tuple #[.int .u32 (un s p 4), .int .i64 (so s p 4), .int .i64 (se s p 4)]) ∧ Below w.heap.size w w' := by
  by_cases h : okS s p 4
  · simp only [un, so, se, if_pos h]; exact u32_yes s p w hs h.1 h.2.2
  · simp only [un, so, se, if_neg h]; exact (u32_no s p w hs hp (by unfold okS at h; omega)).mono fun _ _ ⟨he, hw⟩ => ⟨he, hw ▸ Below.refl _ _⟩

theorem so_le (s : ByteArray) (p m : Int) (hs : s.size ≤ maxLen) : so s p m ≤ maxLen := by
  unfold so
  split
  · rename_i h; unfold okS at h; omega
  · unfold maxLen; omega

theorem sx_size (s : ByteArray) (p m : Int) : (sx s p m).size ≤ s.size := by
  unfold sx
  split
  · rw [ByteArray.size_extract]; omega
  · exact Nat.zero_le _
theorem sx_join (s : ByteArray) (k a b : Int) (c1 : okS s k (a + b)) (c2 : okS s k a) (c3 : okS s (k + a) b) : sx s k (a + b) = sx s k a ++ sx s (k + a) b := by
  unfold sx
  rw [if_pos c1, if_pos c2, if_pos c3]
  unfold okS at *
  rw [ByteArray.extract_append_extract]
  congr 1 <;> omega
theorem num_append (l m : List UInt8) : num (l ++ m) = num l * 256 ^ m.length + num m := by
  generalize hn : m.length = n
  induction n generalizing m with
  | zero => have := List.eq_nil_of_length_eq_zero hn; subst this; simp [num]
  | succ n ih =>
    obtain ⟨m', b, rfl⟩ : ∃ m' b, m = m' ++ [b] := ⟨m.dropLast, m.getLast (by intro e; simp [e] at hn), (List.dropLast_concat_getLast _).symm⟩
    have h' : m'.length = n := by simpa using hn
    rw [← List.append_assoc, num_snoc, num_snoc, ih m' h', Nat.pow_succ, Nat.add_mul, Nat.mul_assoc, Nat.add_assoc]
theorem bnum_append (a b : ByteArray) : bnum (a ++ b) = bnum a * 256 ^ b.size + bnum b := by
  unfold bnum
  have : (a ++ b).data.toList = a.data.toList ++ b.data.toList := by simp
  rw [this, num_append]
  have hl : b.data.toList.length = b.size := by simp
  rw [hl, Int.natCast_add, Int.natCast_mul, Int.natCast_pow]
  rfl
theorem bnum_lt (a : ByteArray) : 0 ≤ bnum a ∧ bnum a < 256 ^ a.size := by
  unfold bnum
  refine ⟨by omega, ?_⟩
  have h := Int.ofNat_lt.2 (num_lt a.size a.data.toList (by simp))
  rw [Int.natCast_pow] at h
  exact h
theorem un_halves (s : ByteArray) (k : Int) (h0 : 0 ≤ k) (h1 : k + 4 ≤ s.size) : un s k 4 = (un s k 2 % 4294967296 * 65536 + un s (k + 2) 2) % 4294967296 := by
  unfold un
  rw [if_pos (by unfold okS; omega), if_pos (by unfold okS; omega), if_pos (by unfold okS; omega)]
  have hj : s.extract k.toNat (k + 4).toNat = s.extract k.toNat (k + 2).toNat ++ s.extract (k + 2).toNat (k + 2 + 2).toNat := by
    rw [ByteArray.extract_append_extract]
    congr 1 <;> omega
  have z1 : (s.extract k.toNat (k + 2).toNat).size = 2 := by rw [ByteArray.size_extract]; omega
  have z2 : (s.extract (k + 2).toNat (k + 2 + 2).toNat).size = 2 := by rw [ByteArray.size_extract]; omega
  have b1 := bnum_lt (s.extract k.toNat (k + 2).toNat)
  have b2 := bnum_lt (s.extract (k + 2).toNat (k + 2 + 2).toNat)
  rw [hj, bnum_append]
  rw [z1] at b1
  rw [z2] at b2 ⊢
  generalize bnum (s.extract k.toNat (k + 2).toNat) = x at *
  generalize bnum (s.extract (k + 2).toNat (k + 2 + 2).toNat) = y at *
  have e : (256 : Int) ^ 2 = 65536 := rfl
  rw [e] at *
  omega

set_option maxHeartbeats 1000000 in
theorem halves_walk (s : ByteArray) (k a b : Int) (hs : s.size ≤ maxLen) (hk : (Lit.int .u8 k).wf = true) (ha : (Lit.int .u8 a).wf = true) (hb : (Lit.int .u8 b).wf = true) (w : World) :
    Calls Try.prog 5 #[.string s, .int .u8 k, .int .u8 a, .int .u8 b] w fun e w' => e = .returned (.bool true) ∧ Below w.heap.size w w' := by
  have hs' := hs
  unfold maxLen at hs'
  obtain ⟨k0, k1⟩ := bounds_u8 hk
  obtain ⟨a0, a1⟩ := bounds_u8 ha
  obtain ⟨b0, b1⟩ := bounds_u8 hb
  by_cases hbig : 2000 < s.size
  · go_enter Try.func5, Try.ntmps5
    go_wp2_with (go_at_call 8; refine (shown_any _).mono ?_; rintro e w1 ⟨rfl, hb1⟩)
    go_ret
    exact ⟨rfl, hb1⟩
  have hmax : k ≤ maxLen := by unfold maxLen; omega
  have hmax2 : k + 2 ≤ maxLen := by unfold maxLen; omega
  have hq := so_le s k a hs
  go_enter Try.func5, Try.ntmps5
  go_wp2_with fail
  refine (shown_any _).mono ?_; rintro e w1 ⟨rfl, hb1⟩
  go_wp2_with fail
  refine (some_any s k (a + b) _ hs hmax).mono ?_; rintro e w2 ⟨rfl, rfl⟩
  go_wp2_with fail
  refine (some_any s k a _ hs hmax).mono ?_; rintro e w2 ⟨rfl, rfl⟩
  go_wp2_with fail
  refine (some_any s (so s k a) b _ hs hq).mono ?_; rintro e w2 ⟨rfl, rfl⟩
  go_wp2_with fail
  refine (u32_any s k _ hs hmax).mono ?_; rintro e w2 ⟨rfl, hb2⟩
  go_wp2_with fail
  refine (u16_any s (k + 2) _ hs hmax2).mono ?_; rintro e w3 ⟨rfl, hb3⟩
  go_wp2_with fail
  refine (u16_any s k _ hs hmax).mono ?_; rintro e w4 ⟨rfl, hb4⟩
  have hbel : Below w.heap.size w w4 := ((hb1.trans (hb2.mono hb1.size)).trans (hb3.mono (Nat.le_trans hb1.size hb2.size))).trans (hb4.mono (Nat.le_trans (Nat.le_trans hb1.size hb2.size) hb3.size))
  clear hb1 hb2 hb3 hb4 hq hmax hmax2 hk ha hb
  have hz : ¬ 9223372036854775807 < (sx s k a).size + (sx s (so s k a) b).size := by
    have h1 := sx_size s k a
    have h2 := sx_size s (so s k a) b
    omega
  by_cases c4 : okS s k 4
  · have f1 : se s k 4 = 0 := if_pos c4
    have f2 : se s (k + 2) 2 = 0 := if_pos (by unfold okS at *; omega)
    have f3 : se s k 2 = 0 := if_pos (by unfold okS at *; omega)
    have f4 : so s k 4 = k + 4 := if_pos c4
    have f5 : un s k 4 = (un s k 2 % 4294967296 * 65536 + un s (k + 2) 2) % 4294967296 := un_halves s k k0 (by unfold okS at c4; omega)
    have f6 : decide (k + 4 ≤ (s.size : Int)) = true := by unfold okS at c4; simp; omega
    by_cases c1 : okS s k (a + b)
    · have e1 : se s k (a + b) = 0 := if_pos c1
      have c2 : okS s k a := by unfold okS at *; omega
      have e2 : se s k a = 0 := if_pos c2
      have o2 : so s k a = k + a := if_pos c2
      rw [o2] at hz
      have c3 : okS s (k + a) b := by unfold okS at *; omega
      have e3 : se s (k + a) b = 0 := if_pos c3
      have e4 : (sx s k (a + b)).toList = (sx s k a ++ sx s (k + a) b).toList := by rw [sx_join s k a b c1 c2 c3]
      have e5 : so s k (a + b) = k + (a + b) := if_pos c1
      have e6 : so s (k + a) b = k + a + b := if_pos c3
      clear c1 c2 c3 c4
      go_wp2_with fail
      go_ret
      exact ⟨rfl, hbel⟩
    · have e1 : se s k (a + b) = 2 := if_neg c1
      clear c1 c4
      go_wp2_with fail
      go_ret
      exact ⟨rfl, hbel⟩
  · have f1 : se s k 4 = 2 := if_neg c4
    have f6 : decide (k + 4 ≤ (s.size : Int)) = false := by unfold okS at c4; simp; omega
    by_cases c1 : okS s k (a + b)
    · have e1 : se s k (a + b) = 0 := if_pos c1
      have c2 : okS s k a := by unfold okS at *; omega
      have e2 : se s k a = 0 := if_pos c2
      have o2 : so s k a = k + a := if_pos c2
      rw [o2] at hz
      have c3 : okS s (k + a) b := by unfold okS at *; omega
      have e3 : se s (k + a) b = 0 := if_pos c3
      have e4 : (sx s k (a + b)).toList = (sx s k a ++ sx s (k + a) b).toList := by rw [sx_join s k a b c1 c2 c3]
      have e5 : so s k (a + b) = k + (a + b) := if_pos c1
      have e6 : so s (k + a) b = k + a + b := if_pos c3
      clear c1 c2 c3 c4
      go_wp2_with fail
      go_ret
      exact ⟨rfl, hbel⟩
    · have e1 : se s k (a + b) = 2 := if_neg c1
      clear c1 c4
      go_wp2_with fail
      go_ret
      exact ⟨rfl, hbel⟩
end Go.Proofs.Ytpgcklncengljaa
