/- The contracts of message: has, bitsOf. -/
import Derived.Test.YtnakljbginbenaaGreatDoorMmb
import Derived.Laws.BitsLemmas
import Derived.Deep.DeepCutAuto
namespace Go.Proofs.YtnakljbginbenaaGreatDoor
open Go.RowKit
set_option linter.unusedVariables false
set_option linter.unusedSimpArgs false

theorem or_bit (a i : Nat) (h : a / 2 ^ i % 2 = 0) : a ||| 2 ^ i = a + 2 ^ i := by
  have hp : 0 < 2 ^ i := Nat.two_pow_pos i
  have hlo : a % 2 ^ i < 2 ^ i := Nat.mod_lt _ hp
  have e1 : 2 ^ (i + 1) = 2 * 2 ^ i := by rw [Nat.pow_succ]; omega
  have hq : a = 2 ^ (i + 1) * (a / 2 ^ i / 2) + a % 2 ^ i := by
    have h1 := Nat.div_add_mod a (2 ^ i)
    have h2 := Nat.div_add_mod (a / 2 ^ i) 2
    rw [h] at h2
    rw [e1, Nat.mul_comm 2, Nat.mul_assoc]
    rw [Nat.add_zero] at h2
    rw [h2]
    exact h1.symm
  have e2 : 2 ^ i * 1 + a % 2 ^ i = 2 ^ i * 1 ||| a % 2 ^ i := Nat.two_pow_add_eq_or_of_lt hlo 1
  have e3 := Nat.two_pow_add_eq_or_of_lt (show 2 ^ i * 1 + a % 2 ^ i < 2 ^ (i + 1) by omega) (a / 2 ^ i / 2)
  have e4 := Nat.two_pow_add_eq_or_of_lt (show a % 2 ^ i < 2 ^ (i + 1) by omega) (a / 2 ^ i / 2)
  calc a ||| 2 ^ i = (2 ^ (i + 1) * (a / 2 ^ i / 2) + a % 2 ^ i) ||| 2 ^ i := by rw [← hq]
    _ = 2 ^ (i + 1) * (a / 2 ^ i / 2) ||| (2 ^ i * 1 + a % 2 ^ i) := by rw [e4, e2, Nat.or_assoc, Nat.mul_one, Nat.or_comm (a % 2 ^ i)]
    _ = 2 ^ (i + 1) * (a / 2 ^ i / 2) + (2 ^ i * 1 + a % 2 ^ i) := e3.symm
    _ = a + 2 ^ i := by omega
theorem u16w (n : Int) (h0 : 0 ≤ n) (h1 : n < 2 ^ 16) : IntKind.u16.wrap n = n := IntWalk.u16_in n (by omega)
theorem or16 (a i : Nat) (ha : a < 65536) (hi : i < 16) (h : a / 2 ^ i % 2 = 0) : bits .or .u16 (a : Int) ((2 ^ i : Nat) : Int) = ((a + 2 ^ i : Nat) : Int) := by
  rw [(bits_nat .u16 16 (by decide) u16w a (2 ^ i) ha (Nat.pow_lt_pow_right (by decide) hi)).2, or_bit a i h]
theorem and16 (a i : Nat) (ha : a < 65536) (hi : i < 16) : bits .and .u16 (a : Int) ((2 ^ i : Nat) : Int) = (((if a / 2 ^ i % 2 = 1 then 2 ^ i else 0 : Nat)) : Int) := by
  rw [(bits_nat .u16 16 (by decide) u16w a (2 ^ i) ha (Nat.pow_lt_pow_right (by decide) hi)).1]
  congr 1
  have ht : a.testBit i = decide (a / 2 ^ i % 2 = 1) := Nat.testBit_eq_decide_div_mod_eq
  refine Nat.eq_of_testBit_eq fun j => ?_
  rw [Nat.testBit_and, Nat.testBit_two_pow]
  by_cases h : a / 2 ^ i % 2 = 1
  · rw [if_pos h, Nat.testBit_two_pow]
    by_cases hj : i = j
    · subst hj
      rw [ht]
      simp [h]
    · simp [hj]
  · rw [if_neg h, Nat.zero_testBit]
    by_cases hj : i = j
    · subst hj
      rw [ht]
      simp [h]
    · simp [hj]
theorem has16 (a i : Nat) (ha : a < 65536) (hi : i < 16) : (bits .and .u16 (a : Int) ((2 ^ i : Nat) : Int) != 0) = decide (a / 2 ^ i % 2 = 1) := by
  rw [and16 a i ha hi]
  have hp : 0 < 2 ^ i := Nat.two_pow_pos i
  by_cases h : a / 2 ^ i % 2 = 1
  · rw [if_pos h, bne_iff_ne.2 (by omega), decide_eq_true h]
  · rw [if_neg h, decide_eq_false h]
    rfl

set_option maxHeartbeats 1000000 in
theorem has_any (n p : Nat) (hn : n < 65536) (hp : p ≤ 8) (w : World) : Calls Tryz.prog 44 #[.int .u16 (n : Nat), .int .i64 p] w fun e w' => e = .returned (.bool (decide (n / 2 ^ (15 - p) % 2 = 1))) ∧ w' = w := by
  have hh := has16 n (15 - p) hn (by omega)
  have HH := Lib.hid hh
  have HB := Lib.hid (fun w' => bitOf_any p hp w')
  clear hh
  generalize hx : ((2 ^ (15 - p) : Nat) : Int) = X at HB HH
  go_enter Tryz.func44, Tryz.ntmps44
  go_wp2_with fail
  refine (HB.out _).mono ?_
  rintro e w1 ⟨rfl, rfl⟩
  go_wp2_with fail
  go_ret
  rw [← HH.out]
  exact ⟨rfl, rfl⟩

/-- The bits behind so many flags. -/
def bU (m : Ms) (j : Nat) : Nat := 2048 * m.op.toNat + m.rc.toNat + (if 0 < j then 32768 * m.qr.toNat else 0) + (if 5 < j then 1024 * m.aa.toNat else 0) + (if 6 < j then 512 * m.tc.toNat else 0) + (if 7 < j then 256 * m.rd.toNat else 0) + (if 8 < j then 128 * m.ra.toNat else 0)
/-- The flag at a place. -/
def fl (m : Ms) (j : Nat) : Bool := if j = 0 then m.qr else if j = 5 then m.aa else if j = 6 then m.tc else if j = 7 then m.rd else if j = 8 then m.ra else false
theorem bU_all (m : Ms) : bU m 9 = bitsN m := by unfold bU bitsN; simp; omega
theorem bU_step (m : Ms) (h1 : m.op ≤ 15) (h2 : m.rc ≤ 15) (j : Nat) (hj : j < 9) : bU m j < 65536 ∧ (fl m j = true → bU m j / 2 ^ (15 - j) % 2 = 0 ∧ bU m (j + 1) = bU m j + 2 ^ (15 - j)) ∧ (fl m j = false → bU m (j + 1) = bU m j) := by
  have a := toNat_le m.qr; have b := toNat_le m.aa; have c := toNat_le m.tc; have d := toNat_le m.rd; have e := toNat_le m.ra
  have h3 : m.op.toNat ≤ 15 := by omega
  have h4 : m.rc.toNat ≤ 15 := by omega
  have hc : j = 0 ∨ j = 1 ∨ j = 2 ∨ j = 3 ∨ j = 4 ∨ j = 5 ∨ j = 6 ∨ j = 7 ∨ j = 8 := by omega
  have e0 : bU m 0 = 2048 * m.op.toNat + m.rc.toNat := by simp [bU]
  have e1 : bU m 1 = 2048 * m.op.toNat + m.rc.toNat + 32768 * m.qr.toNat := by simp [bU]
  have e2 : bU m 2 = 2048 * m.op.toNat + m.rc.toNat + 32768 * m.qr.toNat := by simp [bU]
  have e3 : bU m 3 = 2048 * m.op.toNat + m.rc.toNat + 32768 * m.qr.toNat := by simp [bU]
  have e4 : bU m 4 = 2048 * m.op.toNat + m.rc.toNat + 32768 * m.qr.toNat := by simp [bU]
  have e5 : bU m 5 = 2048 * m.op.toNat + m.rc.toNat + 32768 * m.qr.toNat := by simp [bU]
  have e6 : bU m 6 = 2048 * m.op.toNat + m.rc.toNat + 32768 * m.qr.toNat + 1024 * m.aa.toNat := by simp [bU]
  have e7 : bU m 7 = 2048 * m.op.toNat + m.rc.toNat + 32768 * m.qr.toNat + 1024 * m.aa.toNat + 512 * m.tc.toNat := by simp [bU]
  have e8 : bU m 8 = 2048 * m.op.toNat + m.rc.toNat + 32768 * m.qr.toNat + 1024 * m.aa.toNat + 512 * m.tc.toNat + 256 * m.rd.toNat := by simp [bU]
  have e9 : bU m 9 = 2048 * m.op.toNat + m.rc.toNat + 32768 * m.qr.toNat + 1024 * m.aa.toNat + 512 * m.tc.toNat + 256 * m.rd.toNat + 128 * m.ra.toNat := by simp [bU]
  rcases hc with rfl | rfl | rfl | rfl | rfl | rfl | rfl | rfl | rfl
  · refine ⟨by rw [e0]; clear e0 e1 e2 e3 e4 e5 e6 e7 e8 e9; omega, fun h => ?_, fun h => ?_⟩
    · have h' : m.qr = true := h
      simp only [Nat.reduceSub, Nat.reducePow, Nat.reduceAdd, Nat.zero_add]
      rw [e1, e0, h', Bool.toNat_true]
      clear e0 e1 e2 e3 e4 e5 e6 e7 e8 e9
      omega
    · have h' : m.qr = false := h
      simp only [Nat.reduceAdd, Nat.zero_add]
      rw [e1, e0, h', Bool.toNat_false]
      clear e0 e1 e2 e3 e4 e5 e6 e7 e8 e9
      omega
  · exact ⟨by rw [e1]; clear e0 e1 e2 e3 e4 e5 e6 e7 e8 e9; omega, (fun h => absurd h (by simp [fl])), fun _ => by simp only [Nat.reduceAdd]; rw [e2, e1]⟩
  · exact ⟨by rw [e2]; clear e0 e1 e2 e3 e4 e5 e6 e7 e8 e9; omega, (fun h => absurd h (by simp [fl])), fun _ => by simp only [Nat.reduceAdd]; rw [e3, e2]⟩
  · exact ⟨by rw [e3]; clear e0 e1 e2 e3 e4 e5 e6 e7 e8 e9; omega, (fun h => absurd h (by simp [fl])), fun _ => by simp only [Nat.reduceAdd]; rw [e4, e3]⟩
  · exact ⟨by rw [e4]; clear e0 e1 e2 e3 e4 e5 e6 e7 e8 e9; omega, (fun h => absurd h (by simp [fl])), fun _ => by simp only [Nat.reduceAdd]; rw [e5, e4]⟩
  · refine ⟨by rw [e5]; clear e0 e1 e2 e3 e4 e5 e6 e7 e8 e9; omega, fun h => ?_, fun h => ?_⟩
    · have h' : m.aa = true := h
      simp only [Nat.reduceSub, Nat.reducePow, Nat.reduceAdd, Nat.zero_add]
      rw [e6, e5, h', Bool.toNat_true]
      clear e0 e1 e2 e3 e4 e5 e6 e7 e8 e9
      omega
    · have h' : m.aa = false := h
      simp only [Nat.reduceAdd, Nat.zero_add]
      rw [e6, e5, h', Bool.toNat_false]
      clear e0 e1 e2 e3 e4 e5 e6 e7 e8 e9
      omega
  · refine ⟨by rw [e6]; clear e0 e1 e2 e3 e4 e5 e6 e7 e8 e9; omega, fun h => ?_, fun h => ?_⟩
    · have h' : m.tc = true := h
      simp only [Nat.reduceSub, Nat.reducePow, Nat.reduceAdd, Nat.zero_add]
      rw [e7, e6, h', Bool.toNat_true]
      clear e0 e1 e2 e3 e4 e5 e6 e7 e8 e9
      omega
    · have h' : m.tc = false := h
      simp only [Nat.reduceAdd, Nat.zero_add]
      rw [e7, e6, h', Bool.toNat_false]
      clear e0 e1 e2 e3 e4 e5 e6 e7 e8 e9
      omega
  · refine ⟨by rw [e7]; clear e0 e1 e2 e3 e4 e5 e6 e7 e8 e9; omega, fun h => ?_, fun h => ?_⟩
    · have h' : m.rd = true := h
      simp only [Nat.reduceSub, Nat.reducePow, Nat.reduceAdd, Nat.zero_add]
      rw [e8, e7, h', Bool.toNat_true]
      clear e0 e1 e2 e3 e4 e5 e6 e7 e8 e9
      omega
    · have h' : m.rd = false := h
      simp only [Nat.reduceAdd, Nat.zero_add]
      rw [e8, e7, h', Bool.toNat_false]
      clear e0 e1 e2 e3 e4 e5 e6 e7 e8 e9
      omega
  · refine ⟨by rw [e8]; clear e0 e1 e2 e3 e4 e5 e6 e7 e8 e9; omega, fun h => ?_, fun h => ?_⟩
    · have h' : m.ra = true := h
      simp only [Nat.reduceSub, Nat.reducePow, Nat.reduceAdd, Nat.zero_add]
      rw [e9, e8, h', Bool.toNat_true]
      clear e0 e1 e2 e3 e4 e5 e6 e7 e8 e9
      omega
    · have h' : m.ra = false := h
      simp only [Nat.reduceAdd, Nat.zero_add]
      rw [e9, e8, h', Bool.toNat_false]
      clear e0 e1 e2 e3 e4 e5 e6 e7 e8 e9
      omega
theorem bU_zero (m : Ms) : bU m 0 = 2048 * m.op.toNat + m.rc.toNat := by unfold bU; simp
theorem or_code (o c : Nat) (ho : o ≤ 15) (hc : c ≤ 15) : bits .or .u16 ((2048 * o : Nat) : Int) (c : Int) = ((2048 * o + c : Nat) : Int) := by
  rw [bits_join .u16 16 (by decide) u16w 11 _ _ (by omega) (by omega) (by omega) (by omega) (by omega) (by omega)]
  omega

set_option maxRecDepth 100000 in
set_option maxHeartbeats 1000000 in
theorem bitsOf_any (m : Ms) (d : Ad) (h1 : 0 ≤ m.op ∧ m.op ≤ 15) (h2 : 0 ≤ m.rc ∧ m.rc ≤ 15) (w : World) : Calls Tryz.prog 50 #[.agg (msV m d)] w fun e w' => e = .returned (.int .u16 (bitsN m : Nat)) ∧ Below w.heap.size w w' := by
  have hbox := World.alloc_heap_new w (Obj.cells (msV m d) 26)
  have hal := (Below.refl w.heap.size w).alloc (Nat.le_refl _) (Obj.cells (msV m d) 26)
  obtain ⟨w1, hw1⟩ : ∃ w1, w1 = w.alloc (Obj.cells (msV m d) 26) := ⟨_, rfl⟩
  rw [← hw1] at hbox hal
  have HB := Lib.hid hal
  have c1 : w1.cell? ⟨w.heap.size, 1, none⟩ = some (.bool m.qr) := blk_cell hbox 1
  have c2 : w1.cell? ⟨w.heap.size, 2, none⟩ = some (.bool m.aa) := blk_cell hbox 2
  have c3 : w1.cell? ⟨w.heap.size, 3, none⟩ = some (.bool m.tc) := blk_cell hbox 3
  have c4 : w1.cell? ⟨w.heap.size, 4, none⟩ = some (.bool m.rd) := blk_cell hbox 4
  have c5 : w1.cell? ⟨w.heap.size, 5, none⟩ = some (.bool m.ra) := blk_cell hbox 5
  have c6 : w1.cell? ⟨w.heap.size, 6, none⟩ = some (.int .i64 m.op) := blk_cell hbox 6
  have c7 : w1.cell? ⟨w.heap.size, 7, none⟩ = some (.int .i64 m.rc) := blk_cell hbox 7
  have HW := Lib.hid hw1
  clear hbox hal hw1
  go_enter Tryz.func50, Tryz.ntmps50
  go_upto_region 1 with (fail)
  rw [← HW.out]
  go_wp2_with fail
  go_loopw [3, 25] (fun b i wr => ∃ j : Nat, j ≤ 9 ∧ b = .int .u16 (bU m j : Nat) ∧ i = .int .i64 j ∧ wr = w1) (fun _ i _ => 9 - (intOf i).toNat)
  case atStart =>
    refine ⟨0, by omega, ?_, rfl, rfl⟩
    have e1 : m.op * 2048 = ((2048 * m.op.toNat : Nat) : Int) := by omega
    have e2 : m.rc = (m.rc.toNat : Int) := by omega
    rw [e1, e2, or_code _ _ (by omega) (by omega), bU_zero]
  case round =>
    obtain ⟨j, hj, rfl, rfl, rfl⟩ := hrel
    by_cases hlt : j < 9
    · obtain ⟨s1, s2, s3⟩ := bU_step m h1.2 h2.2 j hlt
      have hix : ∀ w', (Instr.index 114 (.agg #[.bool m.qr, .bool false, .bool false, .bool false, .bool false, .bool m.aa, .bool m.tc, .bool m.rd, .bool m.ra]) (.int .i64 j)).run Tryz.prog w' = .ok (.bool (fl m j)) w' := by
        have hc : j = 0 ∨ j = 1 ∨ j = 2 ∨ j = 3 ∨ j = 4 ∨ j = 5 ∨ j = 6 ∨ j = 7 ∨ j = 8 := by omega
        rcases hc with rfl | rfl | rfl | rfl | rfl | rfl | rfl | rfl | rfl <;> (intro w'; kernel_rfl)
      have HN := Lib.hid (fun w' => bitOf_any j (by omega) w')
      cases hf : fl m j with
      | false =>
        rw [hf] at hix
        have e := s3 hf
        clear hf s1 s2 s3
        go_wp2_with fail
        go_roundw
        case rel => exact ⟨j + 1, hlt, by rw [e], by go_num, by first | rfl | trivial⟩
        case measure => simp [intOf]; omega
      | true =>
        rw [hf] at hix
        obtain ⟨e1, e2⟩ := s2 hf
        have ho := or16 (bU m j) (15 - j) s1 (by omega) e1
        rw [← e2] at ho
        generalize ((2 ^ (15 - j) : Nat) : Int) = X at HN ho
        clear hf s1 s2 s3 e1 e2
        go_wp2_with fail
        refine (HN.out _).mono ?_
        rintro e w5 ⟨rfl, rfl⟩
        go_wp2_with fail
        go_roundw
        case rel => exact ⟨j + 1, hlt, rfl, by go_num, by first | rfl | trivial⟩
        case measure => simp [intOf]; omega
    · obtain rfl : j = 9 := by omega
      go_wp2_with fail
      go_ret
      rw [← bU_all]
      exact ⟨rfl, HB.out⟩
end Go.Proofs.YtnakljbginbenaaGreatDoor
