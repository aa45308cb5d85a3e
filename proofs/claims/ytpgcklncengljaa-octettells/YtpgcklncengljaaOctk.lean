/- Contracts of derrickref01.Some, Put16 and Put32. -/
import Derived.Test.YtpgcklncengljaaOctj
import Derived.Laws.BytesArg
namespace Go.Proofs.Ytpgcklncengljaa
open Go.RowKit
set_option linter.unusedVariables false

theorem Try.info5 : (Try.prog.info? 5).map (fun i => (i.zero, i.size, i.bytes)) = some (some (.int .u8 0), 1, 1) := by kernel_rfl

/-- The cells of bytes. -/
def bcells (l : List UInt8) : List Value := l.map fun b => .int .u8 (b.toNat : Int)
theorem bcells_snoc (l : List UInt8) (b : UInt8) : bcells (l ++ [b]) = bcells l ++ [.int .u8 (b.toNat : Int)] := by simp [bcells]

/-- 'string(b)' of a row of the call's own. -/
theorem conv_own {w : World} {B : Nat} {v : Value} (l : List UInt8) (h : w.ownsRow B 5 1 v l.length (bcells l)) :
    (convert 45 9 v).run Try.prog w = .ok (.string ⟨l.toArray⟩) w := by
  rcases h.2 with ⟨rfl, h0⟩ | ⟨g, cap, cur, rfl, _⟩
  · have := List.eq_nil_of_length_eq_zero h0
    subst this
    exact run_convert_bytes_nil w 45 5 Try.underlying45 Try.underlying5 0 0 9 Try.underlying9
  · refine run_convert_bytes_back (P := Try.prog) w 45 9 5 ⟨g, 0, none⟩ cap l Try.underlying45 Try.underlying5 Try.underlying9 fun j hj => ?_
    exact h.cells (g := g) rfl j _ (by simp [bcells, hj])

/-- The first k bytes from p on. -/
def part (s : ByteArray) (p k : Nat) : List UInt8 := (s.data.toList.drop p).take k
theorem part_length (s : ByteArray) (p k : Nat) (h : p + k ≤ s.size) : (part s p k).length = k := by simp [part]; omega
theorem part_succ (s : ByteArray) (p k : Nat) (h : p + k < s.size) : part s p (k + 1) = part s p k ++ [s[p + k]] := by
  unfold part
  rw [List.take_succ_eq_append_getElem (by simp; omega)]
  congr 1
  simp
  rfl
theorem part_extract (s : ByteArray) (p k : Nat) : (⟨(part s p k).toArray⟩ : ByteArray) = s.extract p (p + k) := by
  apply ByteArray.ext
  apply Array.toList_inj.1
  rw [extract_list]
  simp [part, List.drop_take]

set_option maxHeartbeats 1000000 in
theorem rsome_any (s : ByteArray) (p m : Int) (w : World) (hs : s.size ≤ 2000) :
    Calls Try.prog 16 #[.string s, .int .i64 p, .int .i64 m] w fun e w' => e = .returned (.tuple #[.string (sx s p m), .int .i64 (so s p m), .int .i64 (se s p m)]) ∧ Below w.heap.size w w' := by
  by_cases h : okS s p m
  · have hb : okB s p m = true := okB_yes h
    simp only [sx, so, se, if_pos h]
    obtain ⟨p0, m0, pm⟩ := h
    obtain ⟨q, rfl⟩ := Int.eq_ofNat_of_zero_le p0
    obtain ⟨n, rfl⟩ := Int.eq_ofNat_of_zero_le m0
    have pm' : q + n ≤ s.size := by omega
    have e1 : ((q : Int) + (n : Int)).toNat = q + n := by omega
    have e0 : (q : Int).toNat = q := by omega
    rw [e1, e0, ← part_extract]
    clear e1 e0 p0 m0
    obtain ⟨i0, hi, hz0, hz1, hz2⟩ := info_parts Try.info5
    go_enter Try.func16, Try.ntmps16
    go_wp2_with (go_at_call 22; refine (there_any s q n _ hs).mono ?_; rintro e w1 ⟨rfl, rfl⟩)
    go_loopw [9, 10] (fun v i wr => ∃ k : Nat, k ≤ n ∧ i = .int .i64 k ∧ wr.ownsRow w.heap.size 5 1 v k (bcells (part s q k)) ∧ Below w.heap.size w wr) (fun _ i _ => n - (intOf i).toNat)
    case atStart => exact ⟨0, Nat.zero_le _, rfl, World.ownsRow_nil _ _ _ _, Below.refl _ _⟩
    case round =>
      obtain ⟨k, hk, rfl, hown, hbel⟩ := hrel
      have hz := hbel.size
      by_cases hlt : k < n
      · have hsn := Lib.hid (part_succ s q k (by omega))
        go_wp2_with (at_builtin; refine wpList_append_own _ rfl _ _ 45 rfl w.heap.size 5 i0 (.int .u8 0) 1 1 Try.underlying45 hi hz0 hz1 hz2 rfl (by decide) _ _ _ rfl (hown.alloc _) ⟨wr.heap.size, 0, none⟩ 1 1 [.int .u8 (s[q + k].toNat : Int)] rfl rfl ?c1 ?c2 ?c3 ?c4 ?c5 ?_)
        case c1 => exact cell_one_new _ _ _
        case c2 => intro u hu; simp at hu; subst hu; rfl
        case c3 => unfold maxLen; omega
        case c4 => omega
        case c5 => simp; omega
        intro v' w1 hown' hgrow _
        rw [← bcells_snoc, ← hsn.out] at hown'
        have hb' : Below w.heap.size w w1 := (hbel.alloc hz _).grown hgrow (by simp; omega) (fun g hg => (hown.lt g hg).1)
        clear hown hgrow hbel hsn
        go_wp2
        go_roundw
        case rel => exact ⟨k + 1, hlt, by go_num, hown', hb'⟩
        case measure => simp [intOf]; omega
      · obtain rfl : k = n := by omega
        have hl := part_length s q k pm'
        have hcv := conv_own (part s q k) (by rw [hl]; exact hown)
        clear hl
        go_wp2
        go_ret3
        exact ⟨rfl, hbel⟩
  · have hb : okB s p m = false := okB_no h
    simp only [sx, so, se, if_neg h]
    clear h
    go_enter Try.func16, Try.ntmps16
    go_wp2_with (go_at_call 22; refine (there_any s p m _ hs).mono ?_; rintro e w1 ⟨rfl, rfl⟩)
    go_ret3
    exact ⟨rfl, Below.refl _ _⟩

theorem conv2 (a b : UInt8) (W : World) : (convert 45 9 (.slice (some ⟨W.heap.size, 0, none⟩) 2 2)).run Try.prog (W.alloc (.cells #[.int .u8 (a.toNat : Int), .int .u8 (b.toNat : Int)] 5)) =
    .ok (.string ⟨#[a, b]⟩) (W.alloc (.cells #[.int .u8 (a.toNat : Int), .int .u8 (b.toNat : Int)] 5)) := by
  have h := run_convert_bytes_back (P := Try.prog) (W.alloc (.cells #[.int .u8 (a.toNat : Int), .int .u8 (b.toNat : Int)] 5)) 45 9 5 ⟨W.heap.size, 0, none⟩ 2 [a, b] Try.underlying45 Try.underlying5 Try.underlying9 (by
    intro j hj
    have hj' : j = 0 ∨ j = 1 := by simp at hj; omega
    rcases hj' with rfl | rfl <;> simp [Addr.add])
  exact h
theorem conv_two (n : Int) (h0 : 0 ≤ n) (h1 : n < 65536) (W : World) :
    (convert 45 9 (.slice (some ⟨W.heap.size, 0, none⟩) 2 2)).run Try.prog (W.alloc (.cells #[.int .u8 (n / 256), .int .u8 (n % 256)] 5)) = .ok (.string (bstr n 2)) (W.alloc (.cells #[.int .u8 (n / 256), .int .u8 (n % 256)] 5)) := by
  have b0 := byteAt_toNat n 2 0 h0
  have b1 := byteAt_toNat n 2 1 h0
  simp only [Nat.reduceMul, Nat.reduceSub, Int.reducePow, Int.pow_zero, Int.ediv_one, Nat.mul_zero] at b0 b1
  have h := conv2 (byteAt n 2 0) (byteAt n 2 1) W
  have e : n / 256 % 256 = n / 256 := by omega
  rw [b0, b1, e] at h
  exact h

set_option maxHeartbeats 400000 in
theorem rput16 (n : Int) (w : World) (h0 : 0 ≤ n) (h1 : n ≤ 65535) :
    Calls Try.prog 18 #[.int .u16 n] w fun e w' => e = .returned (.string (bstr n 2)) ∧ Below w.heap.size w w' := by
  have hcv := conv_two n h0 (by omega)
  have hq : n / 256 = IntKind.u16.wrap (n.tdiv 256) % 256 := by
    rw [Int.tdiv_eq_ediv_of_nonneg h0, IntWalk.u16_in _ (by omega)]
    omega
  rw [hq] at hcv
  clear hq
  go_enter Try.func18, Try.ntmps18
  go_wp2
  go_ret
  exact ⟨rfl, (Below.refl _ _).alloc (Nat.le_refl _) _⟩

theorem bstr_join (n : Int) (h0 : 0 ≤ n) (h1 : n ≤ 4294967295) : bstr (n / 65536) 2 ++ bstr (n % 65536) 2 = bstr n 4 := by
  apply ByteArray.ext
  apply Array.toList_inj.1
  have e2 : ∀ k : Int, (bstr k 2).data.toList = [byteAt k 2 0, byteAt k 2 1] := fun k => rfl
  have e4 : (bstr n 4).data.toList = [byteAt n 4 0, byteAt n 4 1, byteAt n 4 2, byteAt n 4 3] := rfl
  rw [ByteArray.data_append, Array.toList_append, e2, e2, e4]
  have c : ∀ (a b : UInt8), (a.toNat : Int) = b.toNat → a = b := fun a b h => UInt8.toNat_inj.1 (by omega)
  have c0 : byteAt (n / 65536) 2 0 = byteAt n 4 0 := c _ _ (by
    rw [byteAt_toNat _ _ _ (by omega), byteAt_toNat _ _ _ h0]; simp only [Nat.reduceMul, Nat.reduceSub, Int.reducePow]; omega)
  have c1 : byteAt (n / 65536) 2 1 = byteAt n 4 1 := c _ _ (by
    rw [byteAt_toNat _ _ _ (by omega), byteAt_toNat _ _ _ h0]; simp only [Nat.reduceMul, Nat.reduceSub, Int.reducePow, Nat.mul_zero, Int.pow_zero]; omega)
  have c2 : byteAt (n % 65536) 2 0 = byteAt n 4 2 := c _ _ (by
    rw [byteAt_toNat _ _ _ (by omega), byteAt_toNat _ _ _ h0]; simp only [Nat.reduceMul, Nat.reduceSub, Int.reducePow]; omega)
  have c3 : byteAt (n % 65536) 2 1 = byteAt n 4 3 := c _ _ (by
    rw [byteAt_toNat _ _ _ (by omega), byteAt_toNat _ _ _ h0]; simp only [Nat.reduceSub, Nat.mul_zero, Int.pow_zero]; omega)
  rw [c0, c1, c2, c3]
  rfl

set_option maxHeartbeats 400000 in
theorem rput32 (n : Int) (w : World) (h0 : 0 ≤ n) (h1 : n ≤ 4294967295) :
    Calls Try.prog 20 #[.int .u32 n] w fun e w' => e = .returned (.string (bstr n 4)) ∧ Below w.heap.size w w' := by
  have hj := bstr_join n h0 h1
  have z1 := bstr_size (n / 65536) 2
  have z2 := bstr_size (n % 65536) 2
  have y : ¬ 9223372036854775807 < (bstr (n / 65536) 2).size + (bstr (n % 65536) 2).size := by omega
  clear z1 z2
  have HJ := Lib.hid hj
  clear hj
  have q0 : 0 ≤ n / 65536 := by omega
  have q1 : n / 65536 ≤ 65535 := by omega
  go_enter Try.func20, Try.ntmps20
  go_wp2_with fail
  refine (rput16 (n / 65536) _ q0 q1).mono ?_; rintro e w1 ⟨rfl, hb1⟩
  go_wp2_with fail
  refine (rput16 (n % 65536) _ (by omega) (by omega)).mono ?_; rintro e w2 ⟨rfl, hb2⟩
  go_wp2_with fail
  go_ret
  exact ⟨by rw [← HJ.out]; rfl, bthen hb1 hb2⟩

set_option maxRecDepth 100000 in
set_option maxHeartbeats 2000000 in
theorem tells_walk (n : Int) (s : ByteArray) (p m : Int) (hn : (Lit.int .u32 n).wf = true) (hs : s.size ≤ maxLen) (hp : (Lit.int .i64 p).wf = true) (hm : (Lit.int .i64 m).wf = true) (w : World) :
    Calls Try.prog 3 #[.int .u32 n, .string s, .int .i64 p, .int .i64 m] w fun e w' => e = .returned (.bool true) ∧ Below w.heap.size w w' := by
  obtain ⟨n0, n1⟩ := bounds_u32 hn
  have hmax : p ≤ maxLen := by have := bounds_i64 hp; unfold maxLen; omega
  clear hn hp hm
  by_cases hbig : 2000 < s.size
  · go_enter Try.func3, Try.ntmps3
    go_wp2_with (go_at_call 8; refine (shown_any _).mono ?_; rintro e w1 ⟨rfl, hb1⟩)
    go_ret
    exact ⟨rfl, hb1⟩
  have hz : s.size ≤ 2000 := by omega
  go_enter Try.func3, Try.ntmps3
  go_wp2_with fail
  refine (shown_any _).mono ?_; rintro e w1 ⟨rfl, hb1⟩
  go_wp2_with fail
  refine (u8_any s p _ hs hmax).mono ?_; rintro e w2 ⟨rfl, hb2⟩
  go_wp2_with fail
  refine (ru8_any s p _ hz).mono ?_; rintro e w3 ⟨rfl, rfl⟩
  go_wp2_with fail
  refine (u16_any s p _ hs hmax).mono ?_; rintro e w3 ⟨rfl, hb3⟩
  go_wp2_with fail
  refine (ru16_any s p _ hz).mono ?_; rintro e w4 ⟨rfl, hb4⟩
  go_wp2_with fail
  refine (u32_any s p _ hs hmax).mono ?_; rintro e w5 ⟨rfl, hb5⟩
  go_wp2_with fail
  refine (ru32_any s p _ hz).mono ?_; rintro e w6 ⟨rfl, hb6⟩
  go_wp2_with fail
  refine (some_any s p m _ hs hmax).mono ?_; rintro e w7 ⟨rfl, rfl⟩
  go_wp2_with fail
  refine (rsome_any s p m _ hz).mono ?_; rintro e w7 ⟨rfl, hb7⟩
  go_wp2_with fail
  refine (Put16b (n % 65536) _ (by omega) (by omega)).mono ?_; rintro e w8 ⟨rfl, hb8⟩
  go_wp2_with fail
  refine (rput16 (n % 65536) _ (by omega) (by omega)).mono ?_; rintro e w9 ⟨rfl, hb9⟩
  go_wp2_with fail
  refine (Put32b n _ n0 (by omega)).mono ?_; rintro e w10 ⟨rfl, hb10⟩
  go_wp2_with fail
  refine (rput32 n _ n0 n1).mono ?_; rintro e w11 ⟨rfl, hb11⟩
  go_wp2_with fail
  go_ret
  exact ⟨rfl, bthen (bthen (bthen (bthen (bthen (bthen (bthen (bthen (bthen (bthen hb1 hb2) hb3) hb4) hb5) hb6) hb7) hb8) hb9) hb10) hb11⟩
end Go.Proofs.Ytpgcklncengljaa
